package syntax_test

import (
	"math"
	"math/rand"
	"slices"
	"strconv"
	"strings"
	"testing"

	"arbac/api"
	"arbac/names"
	"arbac/syntax"
)

// The operators by their operands.
var (
	leaves   = []syntax.Op{syntax.Number, syntax.True, syntax.False, syntax.Role, syntax.Count, syntax.Members}
	binaries = []syntax.Op{syntax.And, syntax.Or, syntax.Implies, syntax.Le, syntax.Lt, syntax.Ge, syntax.Gt, syntax.Eq, syntax.Add}
)

// operands returns how many operands an operator has; -1 if it is none.
func operands(o syntax.Op) int {
	switch {
	case slices.Contains(leaves, o):
		return 0
	case o == syntax.Not:
		return 1
	case slices.Contains(binaries, o):
		return 2
	}
	return -1
}

// wrongNames reports whether an operator has a number of names that it cannot have.
func wrongNames(e X) bool {
	switch e.Op {
	case syntax.Role, syntax.Members:
		return len(e.Names) != 1
	case syntax.Count:
		return len(e.Names) < 1 || len(e.Names) > 8
	}
	return len(e.Names) != 0
}

// nodeError is the error of one operator by definition.
func nodeError(e X) api.Errno {
	set := map[string]bool{}
	bad := false
	for _, s := range e.Names {
		set[s] = true
		bad = bad || !names.Valid(s)
	}
	switch {
	case operands(e.Op) != len(e.Args):
		return api.ErrArg
	case e.Op != syntax.Number && e.N != 0 || wrongNames(e):
		return api.ErrForm
	case bad:
		return api.ErrName
	case len(set) < len(e.Names):
		return api.ErrExists
	case e.N < 0 || e.N >= 1000000:
		return api.ErrRange
	}
	return api.OK
}

// firstError is the first error of the operators by definition.
func firstError(e X) api.Errno {
	err := nodeError(e)
	for _, x := range e.Args {
		if err == api.OK {
			err = firstError(x)
		}
	}
	return err
}

// exprError is CheckExpr by definition.
func exprError(e X) api.Errno {
	if depth(e) > 10 || size(e) > 200 {
		return api.ErrLimit
	}
	return firstError(e)
}

// good returns a random expression that CheckExpr accepts, with Depth at most depth.
func good(r *rand.Rand, depth int) X {
	if depth <= 1 || r.Intn(5) == 0 {
		return goodLeaf(r)
	}
	if r.Intn(4) == 0 {
		return op(syntax.Not, good(r, depth-1))
	}
	return op(binaries[r.Intn(len(binaries))], good(r, depth-1), good(r, depth-1))
}

// goodLeaf returns one without operands.
func goodLeaf(r *rand.Rand) X {
	pool := []string{"a", "b", "c", "d", "clerk", "auditor", "abcdefghijkl", "nota", "true_"}
	r.Shuffle(len(pool), func(i, j int) { pool[i], pool[j] = pool[j], pool[i] })
	switch o := leaves[r.Intn(len(leaves))]; o {
	case syntax.Number:
		return number([]int{0, 1, 7, 10, 999999}[r.Intn(5)])
	case syntax.Role, syntax.Members:
		return with(o, pool[0])
	case syntax.Count:
		return with(o, pool[:1+r.Intn(8)]...)
	default:
		return op(o)
	}
}

// nodes returns the places of all operators in an expression.
func nodes(e *X) []*X {
	l := []*X{e}
	for i := range e.Args {
		l = append(l, nodes(&e.Args[i])...)
	}
	return l
}

// damage makes one random error somewhere in an expression.
func damage(r *rand.Rand, e *X) {
	l := nodes(e)
	x := l[r.Intn(len(l))]
	switch r.Intn(9) {
	case 0:
		x.Op = syntax.Op(r.Intn(256))
	case 1:
		x.N = []int{-1, 1, 1000000, math.MinInt, math.MaxInt}[r.Intn(5)]
	case 2:
		x.Names = append(x.Names, []string{"x", "", "by", "A", "abcdefghijklm"}[r.Intn(5)])
	case 3:
		x.Names = append(x.Names, x.Names...)
	case 4:
		x.Names = nil
	case 5:
		x.Args = append(x.Args, role("a"))
	case 6:
		x.Args = nil
	case 7:
		x.Args = x.Args[:len(x.Args)/2]
	case 8:
		x.Op = syntax.Op(1 + r.Intn(16))
	}
}

// P16.2: random expressions with no error, one, and several.
func TestCheckExprRandom(t *testing.T) {
	r := rand.New(rand.NewSource(1602))
	seen := map[api.Errno]int{}
	for i := range 30000 {
		e := good(r, 1+r.Intn(11))
		for range i % 4 {
			damage(r, &e)
		}
		want := exprError(e)
		if got := syntax.CheckExpr(e); got != want {
			t.Fatalf("CheckExpr(%v): %d, not %d", e, got, want)
		}
		seen[want]++
	}
	for _, e := range []api.Errno{api.OK, api.ErrLimit, api.ErrArg, api.ErrForm, api.ErrName, api.ErrExists, api.ErrRange} {
		if seen[e] < 50 {
			t.Errorf("error %d has come %d times", e, seen[e])
		}
	}
}

// P16.2: each operator with each number of operands and names.
func TestCheckExprShapes(t *testing.T) {
	for o := range 256 {
		for args := range 5 {
			for n := range 11 {
				e := X{Op: syntax.Op(o), Args: slices.Repeat([]X{op(syntax.True)}, args), Names: letters(n)}
				if got, want := syntax.CheckExpr(e), nodeError(e); got != want {
					t.Errorf("operator %d with %d operands and %d names: %d, not %d", o, args, n, got, want)
				}
			}
		}
	}
}

// letters returns n different names.
func letters(n int) []string {
	return strings.Split("a b c d e f g h i j k l", " ")[:n]
}

// P16.2: the edges that the chapter names.
func TestCheckExprEdges(t *testing.T) {
	for i, c := range []struct {
		e    X
		want api.Errno
	}{
		{first(), api.OK},
		{X{}, api.ErrArg},
		{number(0), api.OK}, {number(999999), api.OK}, {number(1000000), api.ErrRange}, {number(-1), api.ErrRange},
		{X{Op: syntax.Role, N: 1, Names: letters(1)}, api.ErrForm},
		{X{Op: syntax.Role, N: -1, Names: []string{"by"}}, api.ErrForm},
		{X{Op: syntax.True, N: 1}, api.ErrForm},
		{X{Op: syntax.Number, N: -1, Names: []string{"A"}}, api.ErrForm},
		{count("a", "b", "a"), api.ErrExists},
		{count("a", "by", "a"), api.ErrName},
		{count("a", "a", "abcdefghijklm"), api.ErrName},
		{count(letters(8)...), api.OK}, {count(letters(9)...), api.ErrForm}, {count(), api.ErrForm},
		{role(""), api.ErrName}, {role("count"), api.ErrName}, {role("Role"), api.ErrName},
		{op(syntax.Not), api.ErrArg}, {op(syntax.And, role("a")), api.ErrArg}, {op(syntax.And, role("a"), role("b"), role("c")), api.ErrArg},
		// An operator comes before its operands, the left operand before the right one.
		{X{Op: syntax.Not, N: 1, Args: []X{op(99)}}, api.ErrForm},
		{op(syntax.And, number(-1), role("by")), api.ErrRange},
		{op(syntax.And, op(syntax.Not, number(-1)), role("by")), api.ErrRange},
		{op(syntax.And, role("by"), number(-1)), api.ErrName},
		{op(syntax.And, role("a"), number(-1)), api.ErrRange},
		// The types of operands do not matter here.
		{op(syntax.Add, op(syntax.Not, number(1)), op(syntax.Implies, role("a"), with(syntax.Members, "a"))), api.OK},
		// The limits come first.
		{tower(10), api.OK}, {tower(11), api.ErrLimit}, {X{Op: 99, Args: []X{tower(10)}}, api.ErrLimit},
		{X{Op: syntax.Count, Args: slices.Repeat([]X{role("a")}, 199)}, api.ErrArg},
		{X{Op: syntax.Count, Args: slices.Repeat([]X{role("a")}, 200)}, api.ErrLimit},
		{wide(200), api.OK}, {wide(201), api.ErrLimit},
	} {
		if got := syntax.CheckExpr(c.e); got != c.want {
			t.Errorf("%d: CheckExpr(%v): %d, not %d", i, c.e, got, c.want)
		}
	}
}

// wide returns an expression with this Size, whose Depth is as small as it can be.
func wide(n int) X {
	switch n {
	case 1:
		return role("a")
	case 2:
		return op(syntax.Not, role("a"))
	}
	left := (n - 1) / 2
	return op(syntax.And, wide(left), wide(n-1-left))
}

// P16.2: expressions that contain themselves, or one operand very often, exceed the limits.
func TestCheckExprEndless(t *testing.T) {
	endless := op(syntax.And, role("a"), role("b"))
	endless.Args[1] = endless
	twice := role("a")
	for range 100 {
		twice = op(syntax.Or, twice, twice)
	}
	huge := X{Op: syntax.Not, Args: make([]X, 1000000)}
	for i := range huge.Args {
		huge.Args[i] = huge
	}
	for _, e := range []X{endless, twice, huge, tower(1000000)} {
		if syntax.CheckExpr(e) != api.ErrLimit || syntax.PrintExpr(e) != "" {
			t.Error("an expression without end is accepted")
		}
		if l := []C{of(true, syntax.Static, "a", e)}; syntax.Check(l) != api.ErrLimit || syntax.Print(l) != "" {
			t.Error("a constraint without end is accepted")
		}
	}
}

// P16.3: the errors of constraints, in their order.
func TestCheck(t *testing.T) {
	ok := of(true, syntax.Static, "a", op(syntax.True))
	for i, c := range []struct {
		l    []C
		want api.Errno
	}{
		{nil, api.OK},
		{[]C{ok}, api.OK},
		{[]C{ok, of(false, syntax.Dynamic, "b", first()), of(true, syntax.Users, "c", tower(10))}, api.OK},
		{many(32, "x"), api.OK}, {many(33, "x"), api.ErrLimit},
		{slices.Repeat([]C{{}}, 33), api.ErrLimit}, {slices.Repeat([]C{{}}, 32), api.ErrArg},
		{[]C{of(true, 0, "a", ok.Expr)}, api.ErrArg}, {[]C{of(true, 4, "by", X{})}, api.ErrArg}, {[]C{of(true, 255, "a", ok.Expr)}, api.ErrArg},
		{[]C{of(true, 1, "", ok.Expr)}, api.ErrName}, {[]C{of(true, 1, "by", X{})}, api.ErrName}, {[]C{of(true, 1, "abcdefghijklm", ok.Expr)}, api.ErrName},
		{[]C{ok, of(false, 2, "a", X{})}, api.ErrExists}, {[]C{ok, of(false, 2, "b", ok.Expr), of(false, 3, "a", ok.Expr)}, api.ErrExists},
		{[]C{ok, of(false, 9, "a", ok.Expr)}, api.ErrArg}, {[]C{ok, of(false, 2, "A", ok.Expr)}, api.ErrName},
		{[]C{ok, of(true, 1, "b", number(-1)), ok}, api.ErrRange}, {[]C{ok, ok, of(true, 1, "b", number(-1))}, api.ErrExists},
		{[]C{of(true, 1, "a", tower(11)), of(true, 0, "", X{})}, api.ErrLimit}, {[]C{of(true, 1, "a", role("by")), of(true, 0, "", X{})}, api.ErrName},
	} {
		if got := syntax.Check(c.l); got != c.want {
			t.Errorf("%d: Check(%v): %d, not %d", i, c.l, got, c.want)
		}
	}
}

// many returns n constraints.
func many(n int, name string) []C {
	var l []C
	for i := range n {
		l = append(l, of(true, syntax.Static, name+strconv.Itoa(i), op(syntax.True)))
	}
	return l
}

// sized returns constraints whose canonical text has n bytes, from about 6000 to about 14000.
func sized(n int) []C {
	l := many(32, "x")
	for i := range l {
		l[i].Expr = wide(49)
	}
	left := n - len(syntax.Print(l))
	for i := range l {
		for _, x := range nodes(&l[i].Expr) {
			if x.Op == syntax.Role {
				more := min(left, 11)
				x.Names = []string{"a" + strings.Repeat("b", more)}
				left -= more
			}
		}
	}
	return l
}

// P16.3: the text of the constraints is limited; that error comes last.
func TestCheckText(t *testing.T) {
	for _, n := range []int{7000, 7999, 8000} {
		if l := sized(n); syntax.Check(l) != api.OK || len(syntax.Print(l)) != n {
			t.Errorf("%d bytes: error %d, text of %d bytes", n, syntax.Check(l), len(syntax.Print(l)))
		}
	}
	for _, n := range []int{8001, 8002, 12000} {
		l := sized(n)
		if syntax.Check(l) != api.ErrLimit || syntax.Print(l) != "" {
			t.Errorf("%d bytes: error %d", n, syntax.Check(l))
		}
		l[31].Expr = role("by")
		if syntax.Check(l) != api.ErrName {
			t.Errorf("%d bytes and a wrong name: error %d", n, syntax.Check(l))
		}
	}
	l := sized(8000)
	l[31].Kind = syntax.Dynamic
	if syntax.Check(l) != api.ErrLimit {
		t.Errorf("8000 bytes and one more for the kind: error %d", syntax.Check(l))
	}
}
