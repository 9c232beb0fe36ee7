// Package order holds the program against a fault that no call's answer shows: one statement in which an operand is read beside a call that changes it. Go orders calls among one another, but leaves open whether such an operand is read ahead of the call or behind it.
package order

import (
	"go/ast"
	"go/importer"
	"go/parser"
	"go/token"
	"go/types"
	"os"
	"path/filepath"
	"slices"
	"strings"
	"testing"
)

// source answers the program's packages by their sources, and the library's by Go's own.
type source struct {
	files *token.FileSet
	info  *types.Info
	packs map[string]*types.Package
	trees []*ast.File
	std   types.Importer
}

func newSource() *source {
	files := token.NewFileSet()
	return &source{
		files: files,
		info: &types.Info{
			Types: map[ast.Expr]types.TypeAndValue{}, Uses: map[*ast.Ident]types.Object{},
			Defs: map[*ast.Ident]types.Object{}, Selections: map[*ast.SelectorExpr]*types.Selection{},
		},
		packs: map[string]*types.Package{},
		std:   importer.ForCompiler(files, "source", nil),
	}
}

func (s *source) Import(path string) (*types.Package, error) {
	folder, ok := strings.CutPrefix(path, "seawall/")
	if !ok {
		return s.std.Import(path)
	}
	if p := s.packs[path]; p != nil {
		return p, nil
	}
	names, err := filepath.Glob(filepath.Join("..", folder, "*.go"))
	if err != nil {
		return nil, err
	}
	var trees []*ast.File
	for _, name := range names {
		if strings.HasSuffix(name, "_test.go") {
			continue
		}
		tree, err := parser.ParseFile(s.files, name, nil, 0)
		if err != nil {
			return nil, err
		}
		trees = append(trees, tree)
	}
	return s.check(path, trees)
}

func (s *source) check(path string, trees []*ast.File) (*types.Package, error) {
	p, err := (&types.Config{Importer: s}).Check(path, s.files, trees, s.info)
	s.packs[path] = p
	s.trees = append(s.trees, trees...)
	return p, err
}

// folders: those of the program's packages.
func folders(t *testing.T) []string {
	t.Helper()
	entries, err := os.ReadDir("..")
	if err != nil {
		t.Fatal(err)
	}
	var l []string
	for _, e := range entries {
		names, _ := filepath.Glob(filepath.Join("..", e.Name(), "*.go"))
		if slices.ContainsFunc(names, func(name string) bool { return !strings.HasSuffix(name, "_test.go") }) {
			l = append(l, e.Name())
		}
	}
	return l
}

func TestProgram(t *testing.T) {
	s := newSource()
	for _, folder := range folders(t) {
		if _, err := s.Import("seawall/" + folder); err != nil {
			t.Fatal(err)
		}
	}
	if len(s.packs) < 24 {
		t.Errorf("only %d packages were found", len(s.packs))
	}
	for _, f := range find(s) {
		t.Error(f)
	}
}

// faults: what is to be found, and what is not.
const faults = `package faults

type net struct {
	row  []int
	seen int
	deep struct{ n int }
	of   *net
	do   func() int
}

func (n *net) cut(at int) int {
	p := n.row[at]
	n.row = append(n.row[:at], n.row[at+1:]...)
	return p
}

func (n *net) count() int { n.seen++; return n.seen }

func (n *net) deeper() int { n.deep.n++; return 0 }

func (n *net) by() int { return n.of.count() }

func (n *net) reset() int { *n = net{}; return 0 }

func (n *net) asked() int { return n.seen + len(n.row) }

func (n *net) lay(v int) int { n.row[0] = v; return v }

func call(f func() int) int { return f() }

func two(a, b int) int { return a + b }

func right(n *net) bool {
	p := n.cut(0)
	n.row = append(n.row, p)
	n.seen = n.count()
	n.row = append(n.row, n.asked(), n.count())
	for i := range n.row {
		n.row[i] = n.asked() + n.seen
	}
	x := n.cut(n.seen) + n.count()
	return x > 0 && n.seen > 1 && n.count() > 1 || n.seen > 2
}

func wrong(n *net, l []int) int {
	n.row = append(n.row, n.cut(0)) // fault
	n.seen += n.count() // fault
	x := n.seen + n.by() // fault
	if n.asked() == n.deep.n+n.deeper() { // fault
		return n.seen + n.reset() // fault
	}
	x = two(n.row[0], n.lay(3)) // fault
	x = n.count() - n.cut(n.seen) // fault
	x = len(n.row) + n.cut(0) // fault
	l[n.seen] = n.count() // fault
	l[0], x = x, two(l[1], n.lay(4)) // fault
	y := 0
	x = y + call(func() int { y++; return y }) // fault
	f := func() int { y++; return y }
	x = y - f() // fault
	m := *n
	z, w := m, m.count() // fault
	m.do = f
	v := m.do() * y // fault
	var self func() int
	self = func() int { y--; return max(y, self()) } // fault
	v = self() + y // fault
	switch y + f() { // fault
	case m.seen + 1, m.count():
	case m.seen * m.count(): // fault
	}
	return x + z.seen + w + v
}
`

// TestFinds: the faults of a text are found, each in its line and nowhere else.
func TestFinds(t *testing.T) {
	s := newSource()
	tree, err := parser.ParseFile(s.files, "faults.go", faults, 0)
	if err != nil {
		t.Fatal(err)
	}
	if _, err := s.check("faults", []*ast.File{tree}); err != nil {
		t.Fatal(err)
	}
	var got, want []int
	for _, f := range find(s) {
		got = append(got, f.at.Line)
	}
	for i, line := range strings.Split(faults, "\n") {
		if strings.HasSuffix(line, "// fault") {
			want = append(want, i+1)
		}
	}
	if !slices.Equal(got, want) {
		t.Errorf("found in the lines %v, not %v", got, want)
	}
}
