package tests

import (
	"go/ast"
	"go/importer"
	"go/parser"
	"go/token"
	"go/types"
	"path/filepath"
	"slices"
	"strings"
	"testing"
)

// Go leaves open whether an expression reads a variable ahead of a call beside it or behind that. While the compiler
// happens to take the wanted order, no input shows a call that changes what is read there, so these tests look at the text.

// found is what one expression does: the paths, such as s.disk, that it reads and that its calls may change.
type found struct {
	reads, changes []string
}

// orderLook goes through the text of one package.
type orderLook struct {
	fset     *token.FileSet
	files    []*ast.File
	info     *types.Info
	changing map[types.Object]bool // the package's functions that write through what they are given
	places   []string
}

// lookAt reads the files, and learns which of their functions change something.
func lookAt(t *testing.T, fset *token.FileSet, files []*ast.File) *orderLook {
	t.Helper()
	l := &orderLook{fset: fset, files: files, changing: map[types.Object]bool{}}
	l.info = &types.Info{Types: map[ast.Expr]types.TypeAndValue{}, Uses: map[*ast.Ident]types.Object{}, Defs: map[*ast.Ident]types.Object{}, Selections: map[*ast.SelectorExpr]*types.Selection{}}
	config := types.Config{Importer: importer.ForCompiler(fset, "source", nil)}
	if _, err := config.Check("impl", fset, files, l.info); err != nil {
		t.Fatal(err)
	}
	for known := -1; known < len(l.changing); {
		known = len(l.changing)
		for _, f := range files {
			for _, d := range f.Decls {
				if d, ok := d.(*ast.FuncDecl); ok && l.writes(d) {
					l.changing[l.info.Defs[d.Name]] = true
				}
			}
		}
	}
	return l
}

func (l *orderLook) writes(d *ast.FuncDecl) bool {
	writes := false
	ast.Inspect(d, func(n ast.Node) bool {
		switch n := n.(type) {
		case *ast.AssignStmt:
			writes = writes || slices.ContainsFunc(n.Lhs, func(e ast.Expr) bool { return l.reaches(d, e) })
		case *ast.IncDecStmt:
			writes = writes || l.reaches(d, n.X)
		case *ast.CallExpr:
			writes = writes || l.mayChange(n)
		}
		return !writes
	})
	return writes
}

// reaches tells whether a write to e goes to memory that the function did not make as a variable of its own.
func (l *orderLook) reaches(d *ast.FuncDecl, e ast.Expr) bool {
	shared := false
	for {
		switch x := e.(type) {
		case *ast.SelectorExpr:
			e = x.X
		case *ast.IndexExpr:
			e = x.X
		case *ast.StarExpr:
			e = x.X
		case *ast.Ident:
			v := l.info.Uses[x]
			return shared && (l.isShared(x) || v.Pos() < d.Body.Pos())
		default:
			return true
		}
		shared = shared || l.isShared(e)
	}
}

// isShared: copies of such a value lead to the same memory.
func (l *orderLook) isShared(e ast.Expr) bool {
	switch l.info.TypeOf(e).Underlying().(type) {
	case *types.Pointer, *types.Slice, *types.Map, *types.Interface:
		return true
	}
	return false
}

// mayChange goes by what is called. Of the library only the methods of pointers count, and function values do not.
func (l *orderLook) mayChange(c *ast.CallExpr) bool {
	fun := ast.Unparen(c.Fun)
	if s, ok := fun.(*ast.SelectorExpr); ok {
		fun = s.Sel
	}
	name, ok := fun.(*ast.Ident)
	if !ok {
		return false
	}
	switch f := l.info.Uses[name].(type) {
	case *types.Builtin:
		return f.Name() == "delete" || f.Name() == "clear" || f.Name() == "copy"
	case *types.Func:
		r := f.Signature().Recv()
		if r == nil || f.Pkg() != nil && f.Pkg().Name() == "impl" && !types.IsInterface(r.Type()) {
			return l.changing[f]
		}
		_, isPointer := r.Type().(*types.Pointer)
		return isPointer || types.IsInterface(r.Type())
	}
	return false
}

// parts are the nodes right below n.
func parts(n ast.Node) []ast.Node {
	var out []ast.Node
	ast.Inspect(n, func(m ast.Node) bool {
		if m != nil && m != n {
			out = append(out, m)
		}
		return m == n
	})
	return out
}

// gather looks at n and all below it, and notes the places where one part reads what another one may change.
func (l *orderLook) gather(n ast.Node) found {
	var all found
	for _, p := range parts(n) {
		f := l.gather(p)
		if a, ok := n.(*ast.AssignStmt); ok && isTarget(a, p) {
			f.reads = without(f.reads, p)
		}
		if !inTurn(n) && (meet(all.reads, f.changes) || meet(f.reads, all.changes)) {
			l.places = append(l.places, l.fset.Position(n.Pos()).String())
		}
		all.reads = append(all.reads, f.reads...)
		all.changes = append(all.changes, f.changes...)
	}
	return l.withOwn(n, all)
}

// isTarget: p is written by the assignment, and not read.
func isTarget(a *ast.AssignStmt, p ast.Node) bool {
	e, ok := p.(ast.Expr)
	return ok && slices.Contains(a.Lhs, e) && (a.Tok == token.ASSIGN || a.Tok == token.DEFINE)
}

func without(paths []string, n ast.Node) []string {
	return slices.DeleteFunc(paths, func(p string) bool { return p == types.ExprString(n.(ast.Expr)) })
}

// inTurn: Go says in which order the parts of n happen.
func inTurn(n ast.Node) bool {
	switch n := n.(type) {
	case *ast.BinaryExpr:
		return n.Op == token.LAND || n.Op == token.LOR
	case *ast.AssignStmt, *ast.ReturnStmt, *ast.ExprStmt, *ast.SendStmt, *ast.IncDecStmt, *ast.GoStmt, *ast.DeferStmt:
		return false
	case ast.Stmt:
		return true
	}
	return false
}

// withOwn adds what n itself does to what its parts do.
func (l *orderLook) withOwn(n ast.Node, f found) found {
	switch n := n.(type) {
	case ast.Stmt, *ast.FuncLit, *ast.FuncDecl:
		return found{}
	case *ast.UnaryExpr:
		if n.Op == token.AND {
			f.reads = nil
		}
	case *ast.Ident:
		if v, ok := l.info.Uses[n].(*types.Var); ok && !v.IsField() && !l.isPointer(n) {
			f.reads = append(f.reads, n.Name)
		}
	case *ast.SelectorExpr:
		if s := l.info.Selections[n]; s != nil && s.Kind() == types.FieldVal {
			f.reads = append(without(f.reads, n.X), types.ExprString(n))
		}
	case *ast.IndexExpr:
		f.reads = append(without(f.reads, n.X), types.ExprString(n))
	case *ast.StarExpr:
		f.reads = append(f.reads, types.ExprString(n.X))
	case *ast.CallExpr:
		if l.mayChange(n) {
			f.changes = append(f.changes, l.handed(n)...)
		}
	}
	return f
}

func (l *orderLook) isPointer(e ast.Expr) bool {
	_, ok := l.info.TypeOf(e).Underlying().(*types.Pointer)
	return ok
}

// handed are the paths behind which the call can write: what it is called on, and what it is given by address.
func (l *orderLook) handed(c *ast.CallExpr) []string {
	var out []string
	if s, ok := c.Fun.(*ast.SelectorExpr); ok && l.info.Selections[s] != nil {
		out = append(out, types.ExprString(s.X))
	}
	for _, e := range c.Args {
		if u, ok := e.(*ast.UnaryExpr); ok && u.Op == token.AND {
			out = append(out, types.ExprString(u.X))
		} else if l.isShared(e) {
			out = append(out, types.ExprString(e))
		}
	}
	return out
}

// meet tells whether a path of one list leads to, or through, one of the other.
func meet(a, b []string) bool {
	leads := func(p, q string) bool {
		return p == q || strings.HasPrefix(q, p+".") || strings.HasPrefix(q, p+"[")
	}
	for _, p := range a {
		for _, q := range b {
			if leads(p, q) || leads(q, p) {
				return true
			}
		}
	}
	return false
}

func (l *orderLook) all() []string {
	for _, f := range l.files {
		for _, d := range f.Decls {
			l.gather(d)
		}
	}
	return l.places
}

// boxes is a small program for the lines below.
const boxes = `package impl

type box struct {
	count int
	list  []int
	inner *box
}

type taker interface{ take() int }

func (b *box) take() int   { b.count++; return b.count }
func (b *box) again() int  { return b.take() }
func (b *box) told() int   { return b.count }
func (b box) first() int   { b.list[0]++; return b.list[0] }
func (b box) copied() int  { b.count++; return b.count }
func drop(b *box) int      { b.list = nil; return 0 }
func clean(m map[int]int) int { clear(m); return 0 }
func sum(n ...int) int     { return len(n) }

func f(b *box, own box, m map[int]int, t taker, n int) (int, int) {
	LINE
	return 0, 0
}
`

// The look sees what it is for, and lets pass what Go puts in order.
func TestOrderIsSeen(t *testing.T) {
	for line, wrong := range map[string]bool{
		"return b.take(), b.count":                                  true,
		"return b.count, b.again()":                                 true,
		"_ = box{count: drop(&own), list: own.list}":                true,
		"_ = []box{{count: drop(&own)}, own}":                       true,
		"n = b.inner.take() + b.inner.count":                        true,
		"n = b.inner.take() + b.inner.inner.count":                  true,
		"n = sum(b.list[0], drop(b))":                               true,
		"n = sum(m[1], clean(m))":                                   true,
		"n = sum(own.list[0], own.first())":                         true,
		"b.count += b.take()":                                       true,
		"b.list[b.count] = b.take()":                                true,
		"if b.take() == b.count { return 1, 1 }":                    true,
		"func() { n = b.count + b.take() }()":                       true,
		"n = sum(b.count, sum(1, b.take()))":                        true,
		"n = b.take(); n += b.count":                                false,
		"b.count = b.take()":                                        false,
		"return b.take(), b.again()":                                false,
		"return b.told(), b.count":                                  false,
		"return own.copied(), own.count":                            false,
		"n = b.inner.take() + b.count":                              false,
		"n = sum(b.count, drop(&own))":                              false,
		"n = sum(t.take(), b.count)":                                false,
		"if b.take() > 1 && b.count > 1 { return 1, 1 }":            false,
		"if b.count > 1 || b.take() > 1 { return b.count, 0 }":      false,
		"for n = b.take(); n < b.count; n++ { b.take() }":           false,
		"n = sum(b.count, len(b.list)); f := b.take; _, n = f(), n": false,
	} {
		fset := token.NewFileSet()
		f, err := parser.ParseFile(fset, "", strings.Replace(boxes, "LINE", line, 1), parser.SkipObjectResolution)
		if err != nil {
			t.Fatal(line, err)
		}
		if places := lookAt(t, fset, []*ast.File{f}).all(); (len(places) > 0) != wrong {
			t.Errorf("%s: %v", line, places)
		}
	}
}

func TestOrderOfTheProgram(t *testing.T) {
	names, err := filepath.Glob("../impl/*.go")
	if err != nil || len(names) == 0 {
		t.Fatal(names, err)
	}
	fset := token.NewFileSet()
	var files []*ast.File
	for _, name := range names {
		f, err := parser.ParseFile(fset, name, nil, parser.SkipObjectResolution)
		if err != nil {
			t.Fatal(err)
		}
		files = append(files, f)
	}
	for _, place := range lookAt(t, fset, files).all() {
		t.Errorf("%s: a read beside a call that may change what is read", place)
	}
}
