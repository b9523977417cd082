package formula_test

import (
	"math"
	"math/rand"
	"slices"
	"testing"

	"arbac/api"
	"arbac/formula"
	"arbac/names"
	"arbac/syntax"
)

// The operators by the type of their operands, and by their own type.
var (
	leaves = []syntax.Op{syntax.Number, syntax.True, syntax.False, syntax.Role, syntax.Count, syntax.Members}
	ofBool = []syntax.Op{syntax.Not, syntax.And, syntax.Or, syntax.Implies}
	ofInt  = []syntax.Op{syntax.Le, syntax.Lt, syntax.Ge, syntax.Gt, syntax.Eq, syntax.Add}
	ints   = []syntax.Op{syntax.Number, syntax.Count, syntax.Members, syntax.Add}
)

// typeOf is the type of a formula by definition.
func typeOf(f F) formula.Type {
	if slices.Contains(ints, f.Op) {
		return formula.Int
	}
	return formula.Bool
}

// operands returns how many operands an operator has; -1 if it is none.
func operands(o syntax.Op) int {
	switch {
	case slices.Contains(leaves, o):
		return 0
	case o == syntax.Not:
		return 1
	case slices.Contains(ofBool, o), slices.Contains(ofInt, o):
		return 2
	}
	return -1
}

// nodeError is the error of one operator by definition; the last one depends on the kind, if it is not 0.
func nodeError(f F, k syntax.Kind) api.Errno {
	set := map[int]bool{}
	bad := f.N < 0 || f.N > 999999
	for _, r := range f.Roles {
		bad = bad || r < 1 || r > 63
		set[r] = true
	}
	n := len(f.Roles)
	one := f.Op == syntax.Role || f.Op == syntax.Members
	wrong := one && n != 1 || f.Op == syntax.Count && (n < 1 || n > 8) || !one && f.Op != syntax.Count && n > 0
	switch {
	case operands(f.Op) != len(f.Args):
		return api.ErrArg
	case f.Op != syntax.Number && f.N != 0 || wrong:
		return api.ErrForm
	case bad:
		return api.ErrRange
	case len(set) < n:
		return api.ErrExists
	case k == syntax.Users && (f.Op == syntax.Role || f.Op == syntax.Count):
		return api.ErrType
	case (k == syntax.Static || k == syntax.Dynamic) && f.Op == syntax.Members:
		return api.ErrType
	}
	return api.OK
}

// firstError is the first error of the operators.
func firstError(f F, k syntax.Kind) api.Errno {
	e := nodeError(f, k)
	for _, x := range f.Args {
		if e == api.OK {
			e = firstError(x, k)
		}
	}
	return e
}

// depth and size count the operators.
func depth(f F) int {
	n := 0
	for _, x := range f.Args {
		n = max(n, depth(x))
	}
	return n + 1
}

func size(f F) int {
	n := 1
	for _, x := range f.Args {
		n += size(x)
	}
	return n
}

// typed reports whether all operands have the types that their operators need.
func typed(f F) bool {
	for _, x := range f.Args {
		if slices.Contains(ofInt, f.Op) != (typeOf(x) == formula.Int) || !typed(x) {
			return false
		}
	}
	return true
}

// formError is the error of TypeOf, and of Check up to the types, by definition.
func formError(f F, k syntax.Kind) api.Errno {
	if depth(f) > 10 || size(f) > 200 {
		return api.ErrLimit
	}
	if e := firstError(f, k); e != api.OK {
		return e
	}
	if !typed(f) {
		return api.ErrType
	}
	return api.OK
}

// checkError is Check by definition.
func checkError(f F, k syntax.Kind) api.Errno {
	if k < 1 || k > 3 {
		return api.ErrArg
	}
	if e := formError(f, k); e != api.OK {
		return e
	}
	set := map[int]bool{}
	mentioned(f, set)
	switch {
	case typeOf(f) != formula.Bool:
		return api.ErrType
	case k != syntax.Users && len(set) > 8:
		return api.ErrLimit
	}
	return api.OK
}

// good returns a random formula of a kind and a type without errors, but for the limits.
func good(r *rand.Rand, k syntax.Kind, y formula.Type, depth int) F {
	if depth <= 1 || r.Intn(5) == 0 {
		return goodLeaf(r, k, y)
	}
	if y == formula.Int {
		return op(syntax.Add, good(r, k, y, depth-1), good(r, k, y, depth-1))
	}
	if r.Intn(5) == 0 {
		return op(syntax.Not, good(r, k, y, depth-1))
	}
	if r.Intn(2) == 0 {
		return op(ofBool[1+r.Intn(3)], good(r, k, y, depth-1), good(r, k, y, depth-1))
	}
	return op(ofInt[r.Intn(5)], good(r, k, formula.Int, depth-1), good(r, k, formula.Int, depth-1))
}

// goodLeaf returns one without operands. Sometimes it has one of all roles, mostly one of the first ones.
func goodLeaf(r *rand.Rand, k syntax.Kind, y formula.Type) F {
	pool := r.Perm([]int{3, 5, 8, 63}[min(3, r.Intn(20))])
	for i := range pool {
		pool[i]++
	}
	switch {
	case y == formula.Bool && k != syntax.Users && r.Intn(3) > 0:
		return role(pool[0])
	case y == formula.Bool:
		return op(leaves[1+r.Intn(2)])
	case r.Intn(2) == 0:
		return number([]int{0, 1, 7, 10, 127, 128, 999999}[r.Intn(7)])
	case k == syntax.Users:
		return members(pool[0])
	}
	return count(pool[:1+r.Intn(min(8, len(pool)))]...)
}

// places returns the places of all operators in a formula.
func places(f *F) []*F {
	l := []*F{f}
	for i := range f.Args {
		l = append(l, places(&f.Args[i])...)
	}
	return l
}

// damage makes one random error somewhere in a formula.
func damage(r *rand.Rand, f *F) {
	l := places(f)
	x := l[r.Intn(len(l))]
	switch r.Intn(10) {
	case 0:
		x.Op = syntax.Op(r.Intn(256))
	case 1:
		x.N = []int{-1, 1, 1000000, math.MinInt, math.MaxInt}[r.Intn(5)]
	case 2:
		x.Roles = append(x.Roles, []int{1, 0, -1, 64, math.MaxInt}[r.Intn(5)])
	case 3:
		x.Roles = append(x.Roles, x.Roles...)
	case 4:
		x.Roles = nil
	case 5:
		x.Args = append(x.Args, role(1))
	case 6:
		x.Args = nil
	case 7:
		x.Args = x.Args[:len(x.Args)/2]
	case 8, 9:
		x.Op = syntax.Op(1 + r.Intn(16))
	}
}

// wantType checks TypeOf.
func wantType(t *testing.T, f F, y formula.Type, e api.Errno) {
	t.Helper()
	if got, err := formula.TypeOf(f); got != y || err != e {
		t.Errorf("TypeOf(%s): %d, error %d; not %d, error %d", shown(f), got, err, y, e)
	}
}

// wantCheck checks Check.
func wantCheck(t *testing.T, f F, k syntax.Kind, e api.Errno) {
	t.Helper()
	if got := formula.Check(f, k); got != e {
		t.Errorf("Check(%s, %d): %d, not %d", shown(f), k, got, e)
	}
}

// P18.1, P18.2: random formulas with no error, one, and several.
func TestCheckRandom(t *testing.T) {
	r := rand.New(rand.NewSource(1801))
	seen := map[[2]api.Errno]int{}
	for i := range 30000 {
		f := good(r, syntax.Kind(1+r.Intn(3)), formula.Type(1+r.Intn(2)), 1+r.Intn(11))
		for range i % 3 {
			damage(r, &f)
		}
		e := formError(f, 0)
		if e == api.OK {
			wantType(t, f, typeOf(f), api.OK)
		} else {
			wantType(t, f, 0, e)
		}
		seen[[2]api.Errno{0, e}]++
		for k := range syntax.Kind(5) {
			e := checkError(f, k)
			wantCheck(t, f, k, e)
			seen[[2]api.Errno{api.Errno(k), e}]++
		}
		if t.Failed() {
			t.FailNow()
		}
	}
	for _, e := range []api.Errno{api.OK, api.ErrLimit, api.ErrArg, api.ErrForm, api.ErrRange, api.ErrExists, api.ErrType} {
		for k := range api.Errno(4) {
			if seen[[2]api.Errno{k, e}] < 30 && (k > 0 || e != api.OK) {
				t.Errorf("kind %d: error %d has come %d times", k, e, seen[[2]api.Errno{k, e}])
			}
		}
	}
}

// P18.1, P18.2: each operator with each number of operands of each type, and of roles.
func TestShapes(t *testing.T) {
	for o := range 256 {
		for args := range 4 {
			for n := range 11 {
				for _, x := range []F{op(syntax.True), number(1)} {
					f := F{Op: syntax.Op(o), Args: slices.Repeat([]F{x}, args), Roles: []int{1, 2, 3, 4, 5, 6, 7, 8, 9, 10, 11}[:n]}
					e := formError(f, 0)
					if e == api.OK {
						wantType(t, f, typeOf(f), e)
					} else {
						wantType(t, f, 0, e)
					}
					for k := range syntax.Kind(5) {
						wantCheck(t, f, k, checkError(f, k))
					}
				}
			}
		}
	}
}

// P18.1: each operator with each pair of operands.
func TestOperandTypes(t *testing.T) {
	inner := []F{number(2), op(syntax.True), op(syntax.False), role(1), count(1, 2), members(3), op(syntax.Not, op(syntax.True)), op(syntax.And, role(1), role(1)), op(syntax.Or, role(1), role(1)), op(syntax.Implies, role(1), role(1))}
	for _, o := range ofInt {
		inner = append(inner, op(o, number(1), number(2)))
	}
	for _, x := range inner {
		wantType(t, x, typeOf(x), api.OK)
		for _, y := range inner {
			for _, o := range append(ofBool[1:], ofInt...) {
				f := op(o, x, y)
				need := formula.Bool
				if slices.Contains(ofInt, o) {
					need = formula.Int
				}
				if typeOf(x) == need && typeOf(y) == need {
					wantType(t, f, typeOf(f), api.OK)
				} else {
					wantType(t, f, 0, api.ErrType)
				}
			}
		}
		if typeOf(x) == formula.Bool {
			wantType(t, op(syntax.Not, x), formula.Bool, api.OK)
		} else {
			wantType(t, op(syntax.Not, x), 0, api.ErrType)
		}
	}
}

// P18.1: the edges that the chapter names.
func TestTypeOf(t *testing.T) {
	deep := tower(10, op(syntax.True))
	for _, c := range []struct {
		f F
		y formula.Type
		e api.Errno
	}{
		{sod(), formula.Bool, api.OK},
		{op(syntax.Le, op(syntax.Add, role(1), number(1)), number(2)), 0, api.ErrType},
		{F{}, 0, api.ErrArg}, {F{Op: 17}, 0, api.ErrArg}, {F{Op: 255, N: -1}, 0, api.ErrArg},
		{number(0), formula.Int, api.OK}, {number(999999), formula.Int, api.OK}, {number(1000000), 0, api.ErrRange}, {number(-1), 0, api.ErrRange},
		{role(1), formula.Bool, api.OK}, {role(63), formula.Bool, api.OK}, {role(0), 0, api.ErrRange}, {role(64), 0, api.ErrRange}, {role(-1), 0, api.ErrRange},
		{members(63), formula.Int, api.OK}, {members(64), 0, api.ErrRange},
		{count(63, 1), formula.Int, api.OK}, {count(1, 2, 3, 4, 5, 6, 7, 8), formula.Int, api.OK}, {count(1, 2, 3, 4, 5, 6, 7, 8, 9), 0, api.ErrForm}, {count(), 0, api.ErrForm},
		{count(1, 2, 1), 0, api.ErrExists}, {count(1, 1, 64), 0, api.ErrRange}, {count(64, 64), 0, api.ErrRange}, {count(0, 0), 0, api.ErrRange},
		{F{Op: syntax.Role, N: 1, Roles: []int{1}}, 0, api.ErrForm}, {F{Op: syntax.Role, N: -1, Roles: []int{99}}, 0, api.ErrForm}, {F{Op: syntax.True, N: 1}, 0, api.ErrForm}, {with(syntax.Number, 1), 0, api.ErrForm}, {with(syntax.Role, 1, 2), 0, api.ErrForm},
		{op(syntax.Not), 0, api.ErrArg}, {op(syntax.And, role(1)), 0, api.ErrArg}, {op(syntax.And, role(1), role(1), role(1)), 0, api.ErrArg}, {op(syntax.Role, role(1)), 0, api.ErrArg},
		// An operator comes before its operands, the left operand before the right one, and the types come last.
		{F{Op: syntax.Not, N: 1, Args: []F{op(99)}}, 0, api.ErrForm},
		{op(syntax.And, number(-1), role(64)), 0, api.ErrRange}, {op(syntax.And, number(-1), op(99)), 0, api.ErrRange}, {op(syntax.And, op(syntax.Not, count(1, 1)), op(99)), 0, api.ErrExists}, {op(syntax.And, op(99), number(-1)), 0, api.ErrArg},
		{op(syntax.And, number(1), op(99)), 0, api.ErrArg}, {op(syntax.Not, op(syntax.Not, op(syntax.Add, role(1), count(2, 2)))), 0, api.ErrExists}, {op(syntax.Not, op(syntax.Not, op(syntax.Add, role(1), count(2)))), 0, api.ErrType},
		// The limits come first.
		{deep, formula.Bool, api.OK}, {op(syntax.Not, deep), 0, api.ErrLimit}, {F{Op: 99, Args: []F{deep}}, 0, api.ErrLimit}, {F{Op: 99, Args: deep.Args}, 0, api.ErrArg},
		{wide(200), formula.Bool, api.OK}, {wide(201), 0, api.ErrLimit},
		{F{Op: syntax.Count, Args: slices.Repeat([]F{role(1)}, 199)}, 0, api.ErrArg}, {F{Op: syntax.Count, Args: slices.Repeat([]F{role(1)}, 200)}, 0, api.ErrLimit},
		{endless(1), 0, api.ErrLimit}, {folded(0), 0, api.ErrLimit}, {tower(1000000, role(1)), 0, api.ErrLimit}, {huge(), 0, api.ErrLimit},
	} {
		wantType(t, c.f, c.y, c.e)
		if c.e != api.OK && c.e != api.ErrType {
			wantCheck(t, c.f, syntax.Static, c.e)
		}
	}
}

// huge returns a formula with very many operands that have very many operands.
func huge() F {
	f := F{Op: syntax.Not, Args: make([]F, 1000000)}
	for i := range f.Args {
		f.Args[i] = f
	}
	return f
}

// P18.2: the errors that depend on the kind, and their order.
func TestCheck(t *testing.T) {
	nine := op(syntax.And, op(syntax.Le, count(1, 2, 3, 4, 5, 6, 7, 8), number(1)), role(9))
	eight := op(syntax.And, op(syntax.Le, count(1, 2, 3, 4, 5, 6, 7, 8), number(1)), role(8))
	users := op(syntax.Le, members(1), number(2))
	for _, c := range []struct {
		f      F
		static api.Errno // and dynamic
		users  api.Errno
	}{
		{sod(), api.OK, api.ErrType}, {role(1), api.OK, api.ErrType}, {op(syntax.True), api.OK, api.OK}, {users, api.ErrType, api.OK},
		{op(syntax.Lt, number(1), number(2)), api.OK, api.OK},
		{number(1), api.ErrType, api.ErrType}, {count(1), api.ErrType, api.ErrType}, {members(1), api.ErrType, api.ErrType}, {op(syntax.Add, number(1), number(1)), api.ErrType, api.ErrType},
		{op(syntax.Le, op(syntax.Add, role(1), number(1)), number(2)), api.ErrType, api.ErrType},
		{eight, api.OK, api.ErrType}, {nine, api.ErrLimit, api.ErrType},
		// The kind comes at the end of each operator, and before the next one.
		{count(1, 1), api.ErrExists, api.ErrExists}, {role(64), api.ErrRange, api.ErrRange}, {members(64), api.ErrRange, api.ErrRange},
		{op(syntax.And, role(1), op(99)), api.ErrArg, api.ErrType}, {op(syntax.And, users, op(99)), api.ErrType, api.ErrArg}, {op(syntax.And, op(99), users), api.ErrArg, api.ErrArg},
		{op(syntax.Not, op(syntax.And, role(1), number(-1))), api.ErrRange, api.ErrType}, {op(syntax.Not, op(syntax.And, members(1), number(-1))), api.ErrType, api.ErrRange},
		{op(syntax.And, number(1), count(2, 2)), api.ErrExists, api.ErrExists},
		// Too many roles come last.
		{op(syntax.And, nine, number(1)), api.ErrType, api.ErrType}, {op(syntax.And, nine, members(0)), api.ErrRange, api.ErrType},
		{op(syntax.Add, count(1, 2, 3, 4, 5, 6, 7, 8), count(9)), api.ErrType, api.ErrType},
		{wide(201), api.ErrLimit, api.ErrLimit}, {tower(11, role(1)), api.ErrLimit, api.ErrLimit}, {tower(10, role(1)), api.OK, api.ErrType}, {endless(1), api.ErrLimit, api.ErrLimit}, {F{}, api.ErrArg, api.ErrArg},
	} {
		wantCheck(t, c.f, syntax.Static, c.static)
		wantCheck(t, c.f, syntax.Dynamic, c.static)
		wantCheck(t, c.f, syntax.Users, c.users)
		for _, k := range []syntax.Kind{0, 4, 255} {
			wantCheck(t, c.f, k, api.ErrArg)
		}
	}
}

// P18.2: users formulas may mention any number of roles.
func TestCheckUsersMentionsAll(t *testing.T) {
	var sums []F
	for r := 1; r <= api.MaxRoles; r++ {
		sums = append(sums, members(r))
	}
	for len(sums) > 1 {
		var next []F
		for pair := range slices.Chunk(sums, 2) {
			if len(pair) == 2 {
				next = append(next, op(syntax.Add, pair[0], pair[1]))
			} else {
				next = append(next, pair[0])
			}
		}
		sums = next
	}
	f := op(syntax.Ge, sums[0], number(1))
	if formula.Mentioned(f).Len() != api.MaxRoles {
		t.Error(formula.Mentioned(f).Text())
	}
	wantCheck(t, f, syntax.Users, api.OK)
}

// P18.2: the errors of constraints.
func TestCheckConstraint(t *testing.T) {
	for _, c := range []struct {
		c C
		e api.Errno
	}{
		{C{Kind: syntax.Static, Name: "sod", Formula: sod()}, api.OK}, {C{Enforce: true, Kind: syntax.Dynamic, Name: "abcdefghijkl", Formula: sod()}, api.OK}, {C{Kind: syntax.Users, Name: "sod", Formula: sod()}, api.ErrType},
		{C{}, api.ErrArg}, {C{Kind: 0, Name: "sod", Formula: sod()}, api.ErrArg}, {C{Kind: 4, Name: "by"}, api.ErrArg},
		{C{Kind: syntax.Static, Name: "", Formula: sod()}, api.ErrName}, {C{Kind: syntax.Static, Name: "by"}, api.ErrName}, {C{Kind: syntax.Users, Name: "abcdefghijklm", Formula: sod()}, api.ErrName}, {C{Kind: syntax.Static, Name: "A", Formula: endless(1)}, api.ErrName},
		{C{Kind: syntax.Static, Name: "sod"}, api.ErrArg}, {C{Kind: syntax.Static, Name: "sod", Formula: number(1)}, api.ErrType}, {C{Kind: syntax.Static, Name: "sod", Formula: endless(1)}, api.ErrLimit},
	} {
		if e := formula.CheckConstraint(c.c); e != c.e {
			t.Errorf("CheckConstraint of %d %q %s: %d, not %d", c.c.Kind, c.c.Name, shown(c.c.Formula), e, c.e)
		}
	}
	r := rand.New(rand.NewSource(1802))
	for i := range 5000 {
		c := randomConstraint(r)
		for range i % 2 {
			damage(r, &c.Formula)
		}
		want := checkError(c.Formula, c.Kind)
		switch {
		case c.Kind < 1 || c.Kind > 3:
			want = api.ErrArg
		case !names.Valid(c.Name):
			want = api.ErrName
		}
		if e := formula.CheckConstraint(c); e != want {
			t.Fatalf("CheckConstraint(%v): %d, not %d", c, e, want)
		}
	}
}

// randomConstraint returns one that is mostly accepted.
func randomConstraint(r *rand.Rand) C {
	k := syntax.Kind(1 + r.Intn(3))
	c := C{Enforce: r.Intn(2) == 0, Kind: k, Name: []string{"a", "sod", "x_9", "abcdefghijkl"}[r.Intn(4)], Formula: good(r, k, formula.Bool, 1+r.Intn(8))}
	switch r.Intn(20) {
	case 0:
		c.Kind = []syntax.Kind{0, 4, 255, k%3 + 1}[r.Intn(4)]
	case 1:
		c.Name = []string{"", "by", "B", "abcdefghijklm"}[r.Intn(4)]
	}
	return c
}
