package order

import (
	"go/ast"
	"go/types"
	"maps"
	"strings"
)

// A place is what a call may change and an operand may read: a field, a variable, or (a text) the elements of all lists of a type.
type places map[any]bool

// add: these too; were some of them new?
func (p places) add(l places) bool {
	before := len(p)
	maps.Copy(p, l)
	return len(p) > before
}

// addWhole: a variable or a field, and the fields of its value.
func (p places) addWhole(v *types.Var) {
	p[v.Origin()] = true
	p.addFields(v.Type())
}

// addFields: all that a value of a type has in itself.
func (p places) addFields(t types.Type) {
	switch u := t.Underlying().(type) {
	case *types.Struct:
		for i := range u.NumFields() {
			p.addWhole(u.Field(i))
		}
	case *types.Array:
		p.addFields(u.Elem())
	}
}

// addElements: what lists of a type have.
func (p places) addElements(t types.Type) {
	p["elements of "+t.Underlying().String()] = true
	switch u := t.Underlying().(type) {
	case *types.Slice:
		p.addFields(u.Elem())
	case *types.Map:
		p.addFields(u.Elem())
	}
}

// effects knows what each function and each literal may change.
type effects struct {
	*source
	decls map[types.Object]*ast.FuncDecl
	named map[string][]types.Object     // methods, by their names: what a call by way of an interface may reach
	held  map[types.Object]*ast.FuncLit // literals that a variable holds
	by    map[types.Object]places       // what a declared function changes
	lits  map[*ast.FuncLit]bool         // all literals; is one being reckoned just now? (It may call itself.)
}

func newEffects(s *source) *effects {
	e := &effects{
		source: s, decls: map[types.Object]*ast.FuncDecl{}, named: map[string][]types.Object{},
		held: map[types.Object]*ast.FuncLit{}, by: map[types.Object]places{}, lits: map[*ast.FuncLit]bool{},
	}
	for _, tree := range s.trees {
		ast.Inspect(tree, e.note)
	}
	for more := true; more; {
		more = false
		for o, d := range e.decls {
			if d.Body != nil {
				more = e.by[o].add(e.outside(d, e.of(d.Body))) || more
			}
		}
	}
	return e
}

// note: the functions and literals that there are.
func (e *effects) note(n ast.Node) bool {
	switch x := n.(type) {
	case *ast.FuncDecl:
		o := e.info.Defs[x.Name]
		e.decls[o], e.by[o] = x, places{}
		if x.Recv != nil {
			e.named[o.Name()] = append(e.named[o.Name()], o)
		}
	case *ast.FuncLit:
		e.lits[x] = false
	case *ast.AssignStmt:
		for i, l := range x.Lhs {
			name, ok := l.(*ast.Ident)
			if lit, is := x.Rhs[min(i, len(x.Rhs)-1)].(*ast.FuncLit); ok && is {
				e.held[e.object(name)] = lit
			}
		}
	}
	return true
}

// object: what a name stands for.
func (e *effects) object(name *ast.Ident) types.Object {
	if o := e.info.Defs[name]; o != nil {
		return o
	}
	return e.info.Uses[name]
}

// outside: those of the places that are no variable from within a function.
func (e *effects) outside(within ast.Node, l places) places {
	out := places{}
	for p := range l {
		v, ok := p.(*types.Var)
		if !ok || v.IsField() || v.Pos() < within.Pos() || v.Pos() >= within.End() {
			out[p] = true
		}
	}
	return out
}

// of: what is changed by all that is done in a part of the text. A literal in it is counted with the call that is given it.
func (e *effects) of(n ast.Node) places {
	l := places{}
	ast.Inspect(n, func(n ast.Node) bool {
		switch x := n.(type) {
		case *ast.FuncLit:
			return false
		case *ast.AssignStmt:
			for _, to := range x.Lhs {
				e.addWritten(l, to)
			}
		case *ast.RangeStmt:
			e.addWritten(l, x.Key)
			e.addWritten(l, x.Value)
		case *ast.IncDecStmt:
			e.addWritten(l, x.X)
		case *ast.CallExpr:
			l.add(e.call(x))
		}
		return true
	})
	return l
}

// addWritten: what changes when something is stored there.
func (e *effects) addWritten(l places, to ast.Expr) {
	switch x := to.(type) {
	case nil:
	case *ast.Ident:
		l[e.object(x)] = true
	case *ast.ParenExpr:
		e.addWritten(l, x.X)
	case *ast.StarExpr:
		l.addFields(e.typeOf(x))
		l["value of "+e.typeOf(x).String()] = true
	case *ast.SelectorExpr:
		if root := e.local(x); root != nil {
			l[root] = true
			return
		}
		if v, ok := e.info.Uses[x.Sel].(*types.Var); ok {
			l.addWhole(v)
		}
	case *ast.IndexExpr:
		if _, ok := e.typeOf(x.X).Underlying().(*types.Array); ok {
			e.addWritten(l, x.X)
			return
		}
		l.addElements(e.typeOf(x.X))
	}
}

func (e *effects) typeOf(x ast.Expr) types.Type {
	if t := e.info.Types[x].Type; t != nil {
		return t
	}
	if name, ok := x.(*ast.Ident); ok && e.object(name) != nil {
		return e.object(name).Type()
	}
	return types.Typ[types.Invalid]
}

// local: the variable in which a field lies, if no pointer is between.
func (e *effects) local(x ast.Expr) types.Object {
	switch y := x.(type) {
	case *ast.Ident:
		if v, ok := e.object(y).(*types.Var); ok && !v.IsField() {
			return v
		}
	case *ast.ParenExpr:
		return e.local(y.X)
	case *ast.SelectorExpr:
		if _, ok := e.typeOf(y.X).Underlying().(*types.Struct); ok {
			return e.local(y.X)
		}
	}
	return nil
}

// call: what a call may change.
func (e *effects) call(x *ast.CallExpr) places {
	l := places{}
	if e.info.Types[x.Fun].IsType() {
		return l
	}
	l.add(e.function(ast.Unparen(x.Fun)))
	for _, arg := range x.Args {
		// What a function that is given does, the call may do.
		if _, ok := e.typeOf(arg).Underlying().(*types.Signature); ok {
			l.add(e.function(ast.Unparen(arg)))
		}
	}
	if len(x.Args) > 0 && changesFirst(types.ExprString(ast.Unparen(x.Fun))) {
		l.addElements(e.typeOf(x.Args[0]))
	}
	return l
}

// changesFirst: does a function of the language or its library change the elements of its first argument?
func changesFirst(name string) bool {
	switch name {
	case "append", "copy", "clear", "delete", "maps.Copy", "maps.DeleteFunc":
		return true
	}
	for _, front := range []string{"sort.", "heap.", "slices.Sort", "slices.Reverse", "slices.Delete", "slices.Insert", "slices.Replace", "slices.Compact", "slices.Grow"} {
		if strings.HasPrefix(name, front) && !strings.HasPrefix(name, "slices.Sorted") {
			return true
		}
	}
	return false
}

// function: what changes when a function value is called.
func (e *effects) function(x ast.Expr) places {
	l := places{}
	switch y := x.(type) {
	case *ast.FuncLit:
		e.addLiteral(l, y)
	case *ast.Ident:
		e.addObject(l, e.object(y))
	case *ast.IndexExpr:
		return e.function(y.X)
	case *ast.SelectorExpr:
		o := e.info.Uses[y.Sel]
		e.addObject(l, o)
		s := e.info.Selections[y]
		switch {
		case s == nil || s.Kind() == types.FieldVal:
		case types.IsInterface(s.Recv()):
			for _, m := range e.named[o.Name()] {
				l.add(e.by[m])
			}
		case e.decls[o] == nil:
			e.addReceiver(l, y.X, o)
		}
	}
	return l
}

// addReceiver: a method of the library by a pointer changes what it is asked of.
func (e *effects) addReceiver(l places, x ast.Expr, method types.Object) {
	f, ok := method.(*types.Func)
	if !ok || f.Signature().Recv() == nil {
		return
	}
	if _, ok := f.Signature().Recv().Type().(*types.Pointer); ok {
		e.addWritten(l, x)
	}
}

// addObject: what a function, or one that a variable holds, changes.
func (e *effects) addObject(l places, o types.Object) {
	switch x := o.(type) {
	case *types.Func:
		l.add(e.by[x.Origin()])
	case *types.Var:
		if lit := e.held[x]; lit != nil {
			e.addLiteral(l, lit)
		}
		if x.IsField() {
			// Any literal may stand in a field.
			for lit := range e.lits {
				e.addLiteral(l, lit)
			}
		}
	}
}

// addLiteral: what a literal changes.
func (e *effects) addLiteral(l places, lit *ast.FuncLit) {
	if e.lits[lit] {
		return
	}
	e.lits[lit] = true
	l.add(e.outside(lit, e.of(lit.Body)))
	e.lits[lit] = false
}
