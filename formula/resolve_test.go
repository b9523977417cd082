package formula_test

import (
	"math/rand"
	"slices"
	"strconv"
	"testing"

	"arbac/api"
	"arbac/bits"
	"arbac/formula"
	"arbac/names"
	"arbac/syntax"
)

// X and S are short for expressions and their constraints.
type (
	X = syntax.Expr
	S = syntax.Constraint
)

// expr returns an expression of an operator and operands, named one with names.
func expr(o syntax.Op, l ...X) X { return X{Op: o, Args: l} }

func named(o syntax.Op, l ...string) X { return X{Op: o, Names: l} }

// table returns the table of names.
func table(t *testing.T, l ...string) *names.Table {
	t.Helper()
	roles, e := names.Of(l, api.MaxUsers)
	if e != api.OK {
		t.Fatalf("names.Of: %d", e)
	}
	return roles
}

// three returns the table of the example of the chapter.
func three(t *testing.T) *names.Table {
	t.Helper()
	return table(t, "clerk", "auditor", "teller")
}

// many returns a table of more names than there can be roles.
func many(t *testing.T) *names.Table {
	t.Helper()
	var l []string
	for i := range 70 {
		l = append(l, "r"+strconv.Itoa(i+1))
	}
	return table(t, l...)
}

// exprOf returns a formula with role r named "r" and its number.
func exprOf(f F) X {
	e := X{Op: f.Op, N: f.N}
	for _, r := range f.Roles {
		e.Names = append(e.Names, "r"+strconv.Itoa(r))
	}
	for _, x := range f.Args {
		e.Args = append(e.Args, exprOf(x))
	}
	return e
}

// wantResolve checks Resolve.
func wantResolve(t *testing.T, x X, k syntax.Kind, roles *names.Table, admin bits.Set, want F, e api.Errno) {
	t.Helper()
	f, err := formula.Resolve(x, k, roles, admin)
	if !formula.Equal(f, want) || err != e {
		t.Errorf("Resolve(%q, %d): %s, error %d; not %s, error %d", syntax.PrintExpr(x), k, shown(f), err, shown(want), e)
	}
}

// P18.4: expressions by hand, the example of the chapter among them.
func TestResolve(t *testing.T) {
	roles := three(t)
	none := bits.Set{}
	le := expr(syntax.Le, named(syntax.Count, "clerk", "auditor"), X{Op: syntax.Number, N: 1})
	wantResolve(t, le, syntax.Static, roles, none, sod(), api.OK)
	wantResolve(t, le, syntax.Dynamic, roles, bits.Of(3), sod(), api.OK)
	wantResolve(t, le, syntax.Users, roles, none, F{}, api.ErrType)
	wantResolve(t, expr(syntax.Implies, named(syntax.Role, "teller"), expr(syntax.Not, named(syntax.Role, "clerk"))), syntax.Static, roles, none, op(syntax.Implies, role(3), op(syntax.Not, role(1))), api.OK)
	wantResolve(t, expr(syntax.Gt, named(syntax.Members, "teller"), named(syntax.Members, "auditor")), syntax.Users, roles, bits.Of(1), op(syntax.Gt, members(3), members(2)), api.OK)
	wantResolve(t, expr(syntax.Lt, named(syntax.Count, "teller", "clerk"), X{Op: syntax.Number, N: 2}), syntax.Static, roles, none, op(syntax.Lt, count(3, 1), number(2)), api.OK)
	wantResolve(t, expr(syntax.False), syntax.Users, names.New(), none, op(syntax.False), api.OK)
}

// P18.4: the errors and their order.
func TestResolveErrors(t *testing.T) {
	roles := three(t)
	clerk := named(syntax.Role, "clerk")
	bad := named(syntax.Role, "by")
	loop := expr(syntax.And, clerk, clerk)
	loop.Args[1] = loop
	for _, k := range []syntax.Kind{0, 4, 255} {
		wantResolve(t, clerk, k, roles, bits.Set{}, F{}, api.ErrArg)
		wantResolve(t, bad, k, roles, bits.Of(1), F{}, api.ErrArg)
	}
	wantResolve(t, clerk, syntax.Static, nil, bits.Set{}, F{}, api.ErrArg)
	wantResolve(t, X{}, syntax.Static, nil, bits.Set{}, F{}, api.ErrArg)
	for _, c := range []struct {
		x X
		e api.Errno
	}{
		{X{}, api.ErrArg}, {expr(syntax.Not), api.ErrArg}, {bad, api.ErrName}, {named(syntax.Role), api.ErrForm}, {named(syntax.Count, "clerk", "clerk"), api.ErrExists}, {X{Op: syntax.Number, N: -1}, api.ErrRange}, {loop, api.ErrLimit},
		{named(syntax.Role, "unknown"), api.ErrName}, {expr(syntax.And, clerk, named(syntax.Role, "boss")), api.ErrName}, {named(syntax.Count, "clerk", "unknown"), api.ErrName}, {named(syntax.Members, "unknown"), api.ErrName},
		// An administrative role is none of a constraint.
		{named(syntax.Role, "teller"), api.ErrName}, {expr(syntax.Not, named(syntax.Role, "teller")), api.ErrName}, {expr(syntax.Le, named(syntax.Count, "clerk", "teller"), X{Op: syntax.Number, N: 1}), api.ErrName},
		// The form comes first, then the names, then the types.
		{expr(syntax.And, named(syntax.Role, "unknown"), X{Op: syntax.Number, N: 1000000}), api.ErrRange}, {expr(syntax.And, named(syntax.Role, "unknown"), X{Op: syntax.Number, N: 1}), api.ErrName}, {expr(syntax.And, clerk, X{Op: syntax.Number, N: 1}), api.ErrType},
		{named(syntax.Count, "clerk"), api.ErrType}, {named(syntax.Members, "clerk"), api.ErrType}, {expr(syntax.Le, clerk, clerk), api.ErrType},
	} {
		wantResolve(t, c.x, syntax.Static, roles, bits.Of(3, 1000), F{}, c.e)
	}
	wantResolve(t, expr(syntax.Not, expr(syntax.And, clerk, named(syntax.Role, "teller"))), syntax.Users, roles, bits.Of(3), F{}, api.ErrName)
	wantResolve(t, clerk, syntax.Users, roles, bits.Set{}, F{}, api.ErrType)
	// What is no limit of an expression is one of a formula: eight roles, of 63.
	nine := expr(syntax.Or, named(syntax.Role, "r9"), expr(syntax.Eq, named(syntax.Count, "r1", "r2", "r3", "r4", "r5", "r6", "r7", "r8"), X{Op: syntax.Number}))
	wantResolve(t, nine, syntax.Static, many(t), bits.Set{}, F{}, api.ErrLimit)
	wantResolve(t, named(syntax.Role, "r63"), syntax.Static, many(t), bits.Set{}, role(63), api.OK)
	wantResolve(t, named(syntax.Role, "r64"), syntax.Static, many(t), bits.Set{}, F{}, api.ErrRange)
	wantResolve(t, named(syntax.Role, "r64"), syntax.Static, many(t), bits.Of(64), F{}, api.ErrName)
}

// P18.4, P18.6: random formulas; Resolve is the way back from Syntax.
func TestResolveRandom(t *testing.T) {
	r := rand.New(rand.NewSource(1804))
	roles := many(t)
	seen := map[api.Errno]int{}
	for i := range 20000 {
		k := syntax.Kind(1 + r.Intn(3))
		f := good(r, k, formula.Bool, 1+r.Intn(11))
		for range i % 2 {
			damage(r, &f)
		}
		admin := bits.Set{}
		if r.Intn(5) == 0 {
			admin = bits.Of(2, 8, 30)
		}
		x := exprOf(f)
		set := map[int]bool{}
		mentioned(f, set)
		e := syntax.CheckExpr(x)
		for n := range set {
			if e == api.OK && (n < 1 || n > 70 || admin.Has(n)) {
				e = api.ErrName
			}
		}
		if e == api.OK {
			e = checkError(f, k)
		}
		seen[e]++
		if e != api.OK {
			wantResolve(t, x, k, roles, admin, F{}, e)
			continue
		}
		wantResolve(t, x, k, roles, admin, f, e)
		if y, e := formula.Syntax(f, roles); e != api.OK || !syntax.EqualExpr(x, y) {
			t.Errorf("Syntax(%v): %v, error %d", f, y, e)
		}
	}
	for _, e := range []api.Errno{api.OK, api.ErrLimit, api.ErrArg, api.ErrForm, api.ErrRange, api.ErrName, api.ErrType} {
		if seen[e] < 30 {
			t.Errorf("error %d has come %d times", e, seen[e])
		}
	}
}

// P18.5
func TestResolveAll(t *testing.T) {
	roles := three(t)
	le := expr(syntax.Le, named(syntax.Count, "clerk", "auditor"), X{Op: syntax.Number, N: 1})
	two := expr(syntax.Ge, named(syntax.Members, "teller"), X{Op: syntax.Number, N: 2})
	a, b, c := S{Enforce: true, Kind: syntax.Static, Name: "a", Expr: le}, S{Kind: syntax.Users, Name: "b", Expr: two}, S{Kind: syntax.Dynamic, Name: "c", Expr: named(syntax.Role, "teller")}
	fa, fb, fc := C{Enforce: true, Kind: syntax.Static, Name: "a", Formula: sod()}, C{Kind: syntax.Users, Name: "b", Formula: op(syntax.Ge, members(3), number(2))}, C{Kind: syntax.Dynamic, Name: "c", Formula: role(3)}
	none, third := bits.Set{}, bits.Of(3)
	of := func(name string, k syntax.Kind, x X) S { return S{Kind: k, Name: name, Expr: x} }
	for i, x := range []struct {
		l     []S
		roles *names.Table
		admin bits.Set
		want  []C
		n     int
		e     api.Errno
	}{
		{nil, roles, none, nil, 0, api.OK}, {[]S{a}, roles, third, []C{fa}, 0, api.OK}, {[]S{a, b, c}, roles, none, []C{fa, fb, fc}, 0, api.OK}, {[]S{c, a}, roles, none, []C{fc, fa}, 0, api.OK},
		{nil, nil, none, nil, 0, api.ErrArg}, {[]S{a, a}, nil, none, nil, 0, api.ErrArg},
		// The errors of syntax.Check have the number 0.
		{[]S{a, b, a}, roles, none, nil, 0, api.ErrExists}, {[]S{a, {}}, roles, none, nil, 0, api.ErrArg}, {[]S{a, of("by", syntax.Users, le)}, roles, none, nil, 0, api.ErrName}, {[]S{a, b, of("d", syntax.Users, X{})}, roles, third, nil, 0, api.ErrArg},
		{slices.Repeat([]S{a}, 33), roles, none, nil, 0, api.ErrLimit},
		// Those of Resolve have that of the constraint.
		{[]S{a, b, c}, roles, third, nil, 1, api.ErrName}, {[]S{a, c, b}, roles, third, nil, 1, api.ErrName}, {[]S{a, b, c}, roles, bits.Of(1), nil, 0, api.ErrName}, {[]S{a, b, c}, names.New(), none, nil, 0, api.ErrName},
		{[]S{a, of("d", syntax.Users, le), of("e", syntax.Users, named(syntax.Role, "boss"))}, roles, none, nil, 1, api.ErrType}, {[]S{a, b, of("d", syntax.Users, le)}, roles, none, nil, 2, api.ErrType}, {[]S{a, b, of("d", syntax.Static, two)}, roles, none, nil, 2, api.ErrType},
		{[]S{a, b, c, of("d", syntax.Static, named(syntax.Role, "boss"))}, roles, none, nil, 3, api.ErrName},
	} {
		l, n, e := formula.ResolveAll(x.l, x.roles, x.admin)
		if !slices.EqualFunc(l, x.want, formula.EqualConstraint) || n != x.n || e != x.e {
			t.Errorf("%d: %v, %d, error %d; not %v, %d, error %d", i, l, n, e, x.want, x.n, x.e)
		}
	}
}

// P18.6: the errors, and formulas that Check does not accept.
func TestSyntax(t *testing.T) {
	roles := three(t)
	for i, c := range []struct {
		f     F
		roles *names.Table
		x     X
		e     api.Errno
	}{
		{sod(), roles, expr(syntax.Le, named(syntax.Count, "clerk", "auditor"), X{Op: syntax.Number, N: 1}), api.OK},
		{op(syntax.Not, count(3, 1)), roles, expr(syntax.Not, named(syntax.Count, "teller", "clerk")), api.OK}, {members(2), roles, named(syntax.Members, "auditor"), api.OK}, {number(7), names.New(), X{Op: syntax.Number, N: 7}, api.OK}, {role(70), many(t), named(syntax.Role, "r70"), api.OK},
		{sod(), nil, X{}, api.ErrArg}, {endless(9), nil, X{}, api.ErrArg},
		{role(4), roles, X{}, api.ErrName}, {role(0), roles, X{}, api.ErrName}, {role(-1), roles, X{}, api.ErrName}, {op(syntax.And, role(1), op(syntax.Not, role(4))), roles, X{}, api.ErrName}, {sod(), names.New(), X{}, api.ErrName}, {sod(), table(t, "clerk"), X{}, api.ErrName},
		{F{}, roles, X{}, api.ErrArg}, {op(syntax.Not), roles, X{}, api.ErrArg}, {count(), roles, X{}, api.ErrForm}, {count(1, 2, 1), roles, X{}, api.ErrExists}, {number(-1), roles, X{}, api.ErrRange}, {with(syntax.True, 3), roles, X{}, api.ErrForm}, {tower(11, role(1)), roles, X{}, api.ErrLimit}, {wide(201), roles, X{}, api.ErrLimit},
		// A role without a name comes first, wherever it is.
		{F{Op: 99, N: -1, Roles: []int{1, 4}}, roles, X{}, api.ErrName}, {op(99, number(-1), op(98, role(4))), roles, X{}, api.ErrName}, {tower(11, role(4)), roles, X{}, api.ErrName}, {tower(1000000, role(4)), roles, X{}, api.ErrName},
		{endless(1), roles, X{}, api.ErrLimit}, {endless(4), roles, X{}, api.ErrName}, {folded(1), roles, X{}, api.ErrLimit}, {folded(4), roles, X{}, api.ErrName}, {tower(1000000, role(1)), roles, X{}, api.ErrLimit},
	} {
		x, e := formula.Syntax(c.f, c.roles)
		if !syntax.EqualExpr(x, c.x) || e != c.e {
			t.Errorf("%d: Syntax(%s): %v, error %d; not %v, error %d", i, shown(c.f), x, e, c.x, c.e)
		}
	}
}

// P18.6: formulas of any form.
func TestSyntaxRandom(t *testing.T) {
	r := rand.New(rand.NewSource(1806))
	roles := many(t)
	for i := range 10000 {
		f := good(r, syntax.Kind(1+r.Intn(3)), formula.Bool, 1+r.Intn(11))
		for range i % 3 {
			damage(r, &f)
		}
		want := exprOf(f)
		set := map[int]bool{}
		mentioned(f, set)
		e := syntax.CheckExpr(want)
		for n := range set {
			if n < 1 || n > 70 {
				e = api.ErrName
			}
		}
		if e != api.OK {
			want = X{}
		}
		if x, err := formula.Syntax(f, roles); !syntax.EqualExpr(x, want) || err != e {
			t.Fatalf("Syntax(%v): %v, error %d; not %v, error %d", f, x, err, want, e)
		}
	}
}

// spoil changes all that a formula holds, its spare capacity too.
func spoil(f F) {
	for i := range f.Roles[:cap(f.Roles)] {
		f.Roles[:cap(f.Roles)][i] = 99
	}
	for _, x := range f.Args {
		spoil(x)
	}
	for i := range f.Args[:cap(f.Args)] {
		f.Args[:cap(f.Args)][i] = F{Op: 99, N: 99}
	}
}

// spoilExpr does so with an expression.
func spoilExpr(x X) {
	for i := range x.Names[:cap(x.Names)] {
		x.Names[:cap(x.Names)][i] = "spoilt"
	}
	for _, y := range x.Args {
		spoilExpr(y)
	}
	for i := range x.Args[:cap(x.Args)] {
		x.Args[:cap(x.Args)][i] = X{Op: 99, N: 99}
	}
}

// The results are new memory, and arguments are not changed.
func TestResolveMemory(t *testing.T) {
	roles := three(t)
	one := named(syntax.Count, "clerk", "auditor")
	// The argument shares memory within itself, what is made of it does not.
	shared := expr(syntax.Lt, one, expr(syntax.Add, one, one))
	l := []S{{Kind: syntax.Static, Name: "a", Expr: shared}, {Kind: syntax.Static, Name: "b", Expr: shared}}
	before := syntax.Copy(l)
	want := op(syntax.Lt, count(1, 2), op(syntax.Add, count(1, 2), count(1, 2)))
	out, _, e := formula.ResolveAll(l, roles, bits.Set{})
	if e != api.OK {
		t.Fatal(e)
	}
	spoil(out[0].Formula)
	if !formula.Equal(out[1].Formula, want) || !syntax.Equal(l, before) {
		t.Error("ResolveAll shares memory")
	}
	spoil(out[1].Formula.Args[0])
	if !formula.Equal(out[1].Formula.Args[1], want.Args[1]) {
		t.Error("Resolve shares memory within a formula")
	}
	both := count(1, 2)
	f := op(syntax.Lt, both, op(syntax.Add, both, both))
	x, _ := formula.Syntax(f, roles)
	spoilExpr(x.Args[0])
	if !syntax.EqualExpr(x.Args[1], shared.Args[1]) || !formula.Equal(f, want) {
		t.Error("Syntax shares memory")
	}
}
