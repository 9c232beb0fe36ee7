package order

import (
	"go/ast"
	"go/token"
	"go/types"
	"slices"
)

// fault is an operand that is read beside a call that changes it.
type fault struct {
	at   token.Position
	read string
	call string
}

func (f fault) String() string {
	return f.at.String() + ": " + f.read + " is read beside " + f.call + ", which may change it"
}

// find: all faults of the sources.
func find(s *source) []fault {
	e := newEffects(s)
	var l []fault
	for _, tree := range s.trees {
		ast.Inspect(tree, func(n ast.Node) bool {
			for _, one := range statement(n) {
				l = append(l, e.faults(one)...)
			}
			return true
		})
	}
	return l
}

// statement: what of a statement is reckoned in no fixed order; its blocks are statements of their own.
func statement(n ast.Node) []ast.Node {
	switch x := n.(type) {
	case *ast.AssignStmt, *ast.ReturnStmt, *ast.ExprStmt, *ast.SendStmt, *ast.IncDecStmt, *ast.GoStmt, *ast.DeferStmt, *ast.ValueSpec:
		return []ast.Node{x}
	case *ast.IfStmt:
		return []ast.Node{x.Cond}
	case *ast.ForStmt:
		if x.Cond != nil {
			return []ast.Node{x.Cond}
		}
	case *ast.RangeStmt:
		return []ast.Node{x.X}
	case *ast.SwitchStmt:
		if x.Tag != nil {
			return []ast.Node{x.Tag}
		}
	case *ast.CaseClause:
		// They are reckoned one behind the other.
		var l []ast.Node
		for _, c := range x.List {
			l = append(l, c)
		}
		return l
	}
	return nil
}

// step is a read or a call of a statement, with all that it stands in.
type step struct {
	what ast.Expr
	path []ast.Node
}

// faults: those of one statement.
func (e *effects) faults(n ast.Node) []fault {
	var reads, calls []step
	var path []ast.Node
	targets := e.targets(n)
	ast.Inspect(n, func(n ast.Node) bool {
		if n == nil {
			path = path[:len(path)-1]
			return true
		}
		if _, ok := n.(*ast.FuncLit); ok {
			return false
		}
		path = append(path, n)
		if x, ok := n.(ast.Expr); ok && !targets[x] {
			s := step{x, slices.Clone(path)}
			if _, ok := x.(*ast.CallExpr); ok {
				calls = append(calls, s)
			} else {
				reads = append(reads, s)
			}
		}
		return true
	})
	var l []fault
	for _, r := range reads {
		for _, c := range calls {
			if meet(e.read(r), e.call(c.what.(*ast.CallExpr))) && !e.ordered(r, c) {
				l = append(l, fault{e.files.Position(r.what.Pos()), types.ExprString(r.what), types.ExprString(c.what)})
			}
		}
	}
	return l
}

// targets: what is stored to, and not read.
func (e *effects) targets(n ast.Node) map[ast.Expr]bool {
	l := map[ast.Expr]bool{}
	if x, ok := n.(*ast.AssignStmt); ok && (x.Tok == token.ASSIGN || x.Tok == token.DEFINE) {
		for _, to := range x.Lhs {
			l[ast.Unparen(to)] = true
		}
	}
	return l
}

func meet(a, b places) bool {
	for p := range a {
		if b[p] {
			return true
		}
	}
	return false
}

// read: what an operand reads by itself.
func (e *effects) read(s step) places {
	l := places{}
	if e.isPart(s) || !e.info.Types[s.what].IsValue() && !e.isName(s.what) {
		return l
	}
	switch x := s.what.(type) {
	case *ast.Ident:
		if v, ok := e.object(x).(*types.Var); ok {
			l.addWhole(v)
		}
	case *ast.StarExpr:
		l.addFields(e.typeOf(x))
		l["value of "+e.typeOf(x).String()] = true
	case *ast.SelectorExpr:
		if s := e.info.Selections[x]; s != nil && s.Kind() == types.FieldVal {
			l.addWhole(s.Obj().(*types.Var))
			if root := e.local(x); root != nil {
				l[root] = true
			}
		}
	case *ast.IndexExpr:
		if _, ok := e.typeOf(x.X).Underlying().(*types.Array); ok {
			return e.read(step{x.X, nil})
		}
		l["elements of "+e.typeOf(x.X).Underlying().String()] = true
		l.addFields(e.typeOf(x))
	}
	return l
}

func (e *effects) isName(x ast.Expr) bool {
	_, ok := x.(*ast.Ident)
	return ok
}

// isPart: is it only the way to what is read, or called, or pointed to?
func (e *effects) isPart(s step) bool {
	if len(s.path) < 2 {
		return false
	}
	switch up := s.path[len(s.path)-2].(type) {
	case *ast.SelectorExpr:
		if up.Sel == s.what {
			return true
		}
		return e.isWay(up)
	case *ast.IndexExpr:
		_, ok := e.typeOf(up.X).Underlying().(*types.Array)
		return ok && up.X == s.what
	case *ast.UnaryExpr:
		return up.Op == token.AND
	case *ast.KeyValueExpr:
		_, ok := s.what.(*ast.Ident)
		return ok && up.Key == s.what
	}
	return false
}

// isWay: does a selection read its base no more than to find a place in it?
func (e *effects) isWay(x *ast.SelectorExpr) bool {
	if _, ok := e.typeOf(x.X).Underlying().(*types.Struct); !ok {
		return false
	}
	s := e.info.Selections[x]
	if s == nil || s.Kind() == types.FieldVal {
		return true
	}
	f, ok := s.Obj().(*types.Func)
	if !ok {
		return true
	}
	_, ok = f.Signature().Recv().Type().(*types.Pointer)
	return ok
}

// ordered: does the language fix which of the two comes first? It does where one stands in the other, on the two sides of && and ||, and where the read is for a call that is ahead of the other one.
func (e *effects) ordered(r, c step) bool {
	at := 0
	for at < len(r.path) && at < len(c.path) && r.path[at] == c.path[at] {
		at++
	}
	if at == len(r.path) || at == len(c.path) {
		return true
	}
	if x, ok := r.path[at-1].(*ast.BinaryExpr); ok && (x.Op == token.LAND || x.Op == token.LOR) {
		return true
	}
	return r.what.Pos() < c.what.Pos() && slices.ContainsFunc(r.path[at:], e.isCall)
}

// isCall: is it a call of a function? (What the language has built in may be reckoned in place, whenever.)
func (e *effects) isCall(n ast.Node) bool {
	c, ok := n.(*ast.CallExpr)
	return ok && !e.info.Types[c.Fun].IsType() && !e.info.Types[c.Fun].IsBuiltin()
}
