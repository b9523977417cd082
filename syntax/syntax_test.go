package syntax_test

import (
	"math/rand"
	"slices"
	"strings"
	"testing"

	"arbac/syntax"
)

// X and C are short for expressions and constraints.
type (
	X = syntax.Expr
	C = syntax.Constraint
)

// op returns an expression of an operator and operands.
func op(o syntax.Op, l ...X) X {
	return X{Op: o, Args: l}
}

// with returns an expression of an operator and names.
func with(o syntax.Op, l ...string) X {
	return X{Op: o, Names: l}
}

// role, count and number return expressions without operands.
func role(s string) X { return with(syntax.Role, s) }

func count(l ...string) X { return with(syntax.Count, l...) }

func number(n int) X { return X{Op: syntax.Number, N: n} }

// of returns a constraint.
func of(enforce bool, k syntax.Kind, name string, e X) C {
	return C{Enforce: enforce, Kind: k, Name: name, Expr: e}
}

// first is the expression of the first example of the chapter.
func first() X {
	return op(syntax.Implies,
		op(syntax.And, role("a"), op(syntax.Not, role("b"))),
		op(syntax.Le, count("c", "d"), number(1)))
}

// tower returns a Not of a Not of .., with this Depth.
func tower(n int) X {
	e := role("a")
	for range n - 1 {
		e = op(syntax.Not, e)
	}
	return e
}

// depth, size and mentions are Depth, Size and Names by definition.
func depth(e X) int {
	n := 0
	for _, x := range e.Args {
		n = max(n, depth(x))
	}
	return n + 1
}

func size(e X) int {
	n := 1
	for _, x := range e.Args {
		n += size(x)
	}
	return n
}

func mentions(e X, set map[string]bool) {
	for _, s := range e.Names {
		set[s] = true
	}
	for _, x := range e.Args {
		mentions(x, set)
	}
}

// anyExpr returns an expression of any form.
func anyExpr(r *rand.Rand, depth int) X {
	pool := []string{"", "a", "b", "c", "by", "abcdefghijklm", "zz", "A"}
	e := X{Op: syntax.Op(r.Intn(20)), N: max(0, r.Intn(30)-25)}
	for range r.Intn(4) {
		e.Names = append(e.Names, pool[r.Intn(len(pool))])
	}
	if depth > 1 {
		for range r.Intn(4) {
			e.Args = append(e.Args, anyExpr(r, depth-1))
		}
	}
	return e
}

// P16.1: any expressions.
func TestMeasures(t *testing.T) {
	r := rand.New(rand.NewSource(1601))
	for range 5000 {
		e := anyExpr(r, 1+r.Intn(6))
		if n := syntax.Depth(e); n != depth(e) {
			t.Fatalf("Depth %d of %v", n, e)
		}
		if n := syntax.Size(e); n != size(e) {
			t.Fatalf("Size %d of %v", n, e)
		}
		set := map[string]bool{}
		mentions(e, set)
		l := syntax.Names(e)
		if len(l) != len(set) || !slices.IsSorted(l) || slices.ContainsFunc(l, func(s string) bool { return !set[s] }) {
			t.Fatalf("Names %q of %v", l, e)
		}
	}
}

// P16.1: the first example of the chapter, and the least expression.
func TestMeasuresExample(t *testing.T) {
	e := first()
	if syntax.Depth(e) != 4 || syntax.Size(e) != 8 || strings.Join(syntax.Names(e), " ") != "a b c d" {
		t.Errorf("%d %d %q", syntax.Depth(e), syntax.Size(e), syntax.Names(e))
	}
	if syntax.Depth(X{}) != 1 || syntax.Size(X{}) != 1 || len(syntax.Names(X{})) != 0 {
		t.Error("of an expression that is none")
	}
}

// P16.1, P16.6: expressions that are nested very deep, or very wide.
func TestLarge(t *testing.T) {
	const n = 1000000
	deep := tower(n)
	wide := X{Op: syntax.And, Args: slices.Repeat([]X{role("b")}, n)}
	if syntax.Depth(deep) != n || syntax.Size(deep) != n || strings.Join(syntax.Names(deep), " ") != "a" {
		t.Error("a deep expression")
	}
	if syntax.Depth(wide) != 2 || syntax.Size(wide) != n+1 || strings.Join(syntax.Names(wide), " ") != "b" {
		t.Error("a wide expression")
	}
	copied := syntax.Copy([]C{{Expr: deep}, {Expr: wide}})
	if !syntax.EqualExpr(copied[0].Expr, deep) || !syntax.EqualExpr(copied[1].Expr, wide) || syntax.EqualExpr(deep, wide) || syntax.EqualExpr(deep, tower(n-1)) {
		t.Error("Copy or EqualExpr of large expressions")
	}
}

// Names is new memory.
func TestNamesMemory(t *testing.T) {
	e := op(syntax.And, with(syntax.Count, "b", "a"), role("c"))
	clear(syntax.Names(e))
	clear(syntax.Names(e.Args[0]))
	if strings.Join(syntax.Names(e), " ") != "a b c" || strings.Join(e.Args[0].Names, " ") != "b a" {
		t.Errorf("Names has changed its argument: %v", e)
	}
}

// variants returns expressions that differ from one in a single field somewhere.
func variants(e X) []X {
	l := []X{
		{Op: e.Op + 1, N: e.N, Names: e.Names, Args: e.Args},
		{Op: e.Op, N: e.N + 1, Names: e.Names, Args: e.Args},
		{Op: e.Op, N: e.N, Names: append(slices.Clone(e.Names), "a"), Args: e.Args},
		{Op: e.Op, N: e.N, Names: e.Names, Args: append(slices.Clone(e.Args), role("a"))},
	}
	for i, s := range e.Names {
		names := slices.Clone(e.Names)
		names[i] = s + "x"
		l = append(l, X{Op: e.Op, N: e.N, Names: names, Args: e.Args}, X{Op: e.Op, N: e.N, Names: slices.Delete(slices.Clone(names), i, i+1), Args: e.Args})
	}
	for i, x := range e.Args {
		for _, y := range variants(x) {
			args := slices.Clone(e.Args)
			args[i] = y
			l = append(l, X{Op: e.Op, N: e.N, Names: e.Names, Args: args})
		}
		l = append(l, X{Op: e.Op, N: e.N, Names: e.Names, Args: slices.Delete(slices.Clone(e.Args), i, i+1)})
	}
	return l
}

// P16.6: EqualExpr compares each field of each operand.
func TestEqualExpr(t *testing.T) {
	r := rand.New(rand.NewSource(1606))
	for range 300 {
		e := anyExpr(r, 4)
		same := syntax.Copy([]C{{Expr: e}})[0].Expr
		if !syntax.EqualExpr(e, same) || !syntax.EqualExpr(same, e) {
			t.Fatalf("%v is not equal to its copy", e)
		}
		for _, v := range variants(e) {
			if syntax.EqualExpr(e, v) || syntax.EqualExpr(v, e) {
				t.Fatalf("%v is equal to %v", e, v)
			}
		}
	}
	a, b := op(syntax.Or, role("a"), role("b")), op(syntax.Or, role("b"), role("a"))
	if syntax.EqualExpr(a, b) {
		t.Error("the order of operands does not count")
	}
	if syntax.EqualExpr(count("a", "b"), count("b", "a")) {
		t.Error("the order of names does not count")
	}
	if !syntax.EqualExpr(X{Op: syntax.True, Names: []string{}, Args: []X{}}, X{Op: syntax.True}) {
		t.Error("an empty list is not equal to nil")
	}
}

// P16.6: Equal compares each field of each constraint, in order.
func TestEqual(t *testing.T) {
	c := of(true, syntax.Static, "sod", first())
	l := []C{c, of(false, syntax.Users, "few", number(1))}
	if !syntax.Equal(l, syntax.Copy(l)) || !syntax.Equal(nil, []C{}) || !syntax.Equal([]C{{}}, []C{{}}) {
		t.Error("not equal")
	}
	for _, d := range []C{
		of(false, syntax.Static, "sod", first()), of(true, syntax.Dynamic, "sod", first()), of(true, syntax.Static, "so", first()), of(true, syntax.Static, "sod", tower(2)), {},
	} {
		if syntax.Equal([]C{c}, []C{d}) || syntax.Equal([]C{d}, []C{c}) || syntax.Equal([]C{l[1], c}, []C{l[1], d}) {
			t.Errorf("equal to %v", d)
		}
	}
	if syntax.Equal(l, l[:1]) || syntax.Equal(l[:1], l) || syntax.Equal(nil, l) || syntax.Equal(l, []C{l[1], l[0]}) {
		t.Error("the number or the order of constraints does not count")
	}
}

// spoil changes all that an expression holds.
func spoil(e X) {
	for i := range e.Names[:cap(e.Names)] {
		e.Names[:cap(e.Names)][i] = "spoilt"
	}
	for _, x := range e.Args {
		spoil(x)
	}
	for i := range e.Args[:cap(e.Args)] {
		e.Args[:cap(e.Args)][i] = X{Op: 99, N: 99}
	}
}

// P16.6: Copy shares nothing, not even the spare capacity of lists, whatever the form of the constraints is.
func TestCopy(t *testing.T) {
	r := rand.New(rand.NewSource(1666))
	for range 1000 {
		var l []C
		for range r.Intn(4) {
			l = append(l, of(r.Intn(2) == 0, syntax.Kind(r.Intn(5)), []string{"", "a", "sod"}[r.Intn(3)], anyExpr(r, 4)))
		}
		m := syntax.Copy(l)
		n := syntax.Copy(l)
		if !syntax.Equal(l, m) {
			t.Fatalf("the copy of %v is %v", l, m)
		}
		for i := range m {
			spoil(m[i].Expr)
			m[i].Name = "spoilt"
		}
		if !syntax.Equal(l, n) {
			t.Fatalf("a change of the copy changes %v", l)
		}
		for i := range l {
			spoil(l[i].Expr)
		}
		clear(l)
		clear(syntax.Copy(n))
		if len(n) > 0 && n[0].Kind > 4 {
			t.Fatal("a change of the argument changes the copy")
		}
		for _, c := range n {
			if slices.Contains(syntax.Names(c.Expr), "spoilt") {
				t.Fatal("a change of the argument changes the copy")
			}
		}
	}
	spare := X{Op: syntax.And, Names: make([]string, 0, 3), Args: make([]X, 0, 3)}
	c := syntax.Copy([]C{{Expr: spare}})[0].Expr
	_, _ = append(c.Names, "a"), append(c.Args, role("b"))
	if spare.Names[:1][0] != "" || spare.Args[:1][0].Op != 0 {
		t.Error("the copy has the spare capacity of its original")
	}
	if len(syntax.Copy(nil)) != 0 {
		t.Error("a copy of nothing")
	}
}

// The operators and kinds are numbered as the chapter says.
func TestNumbers(t *testing.T) {
	ops := []syntax.Op{
		syntax.Number, syntax.True, syntax.False, syntax.Role, syntax.Count, syntax.Members, syntax.Not, syntax.And,
		syntax.Or, syntax.Implies, syntax.Le, syntax.Lt, syntax.Ge, syntax.Gt, syntax.Eq, syntax.Add,
	}
	for i, o := range ops {
		if int(o) != i+1 {
			t.Errorf("operator %d is number %d", i+1, o)
		}
	}
	if syntax.Static != 1 || syntax.Dynamic != 2 || syntax.Users != 3 {
		t.Error("the kinds have other numbers")
	}
}
