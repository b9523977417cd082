package formula_test

import (
	"fmt"
	"math/rand"
	"slices"
	"testing"

	"arbac/bits"
	"arbac/formula"
	"arbac/syntax"
)

// F and C are short for formulas and constraints.
type (
	F = formula.Formula
	C = formula.Constraint
)

// op returns a formula of an operator and operands.
func op(o syntax.Op, l ...F) F {
	return F{Op: o, Args: l}
}

// with returns a formula of an operator and roles.
func with(o syntax.Op, l ...int) F {
	return F{Op: o, Roles: l}
}

// role, count, members and number return formulas without operands.
func role(r int) F { return with(syntax.Role, r) }

func count(l ...int) F { return with(syntax.Count, l...) }

func members(r int) F { return with(syntax.Members, r) }

func number(n int) F { return F{Op: syntax.Number, N: n} }

// sod is the formula of the first example of the chapter.
func sod() F {
	return op(syntax.Le, count(1, 2), number(1))
}

// tower returns a Not of a Not of .. a formula, with the nesting n of it.
func tower(n int, f F) F {
	for range n - 1 {
		f = op(syntax.Not, f)
	}
	return f
}

// wide returns a formula with n operators, whose nesting is as small as it can be.
func wide(n int) F {
	switch n {
	case 1:
		return op(syntax.True)
	case 2:
		return op(syntax.Not, op(syntax.True))
	}
	left := (n - 1) / 2
	return op(syntax.And, wide(left), wide(n-1-left))
}

// endless returns a formula with a role that is among its own operands.
func endless(r int) F {
	f := op(syntax.And, role(r), role(r))
	f.Args[1] = f
	return f
}

// folded returns a formula that has a role 2^100 times, although it is small in memory.
func folded(r int) F {
	f := role(r)
	for range 100 {
		f = op(syntax.Or, f, f)
	}
	return f
}

// shown returns a formula for a message. It may be large, or have no end.
func shown(f F) string {
	if len(f.Args) > 10 {
		return fmt.Sprint("an operator ", f.Op, " with ", len(f.Args), " operands")
	}
	return fmt.Sprintf("%.1000v", cut(f, 8))
}

// cut returns a formula without what is nested deeper.
func cut(f F, depth int) F {
	g := F{Op: f.Op, N: f.N, Roles: f.Roles}
	if depth > 1 {
		for _, x := range f.Args[:min(len(f.Args), 3)] {
			g.Args = append(g.Args, cut(x, depth-1))
		}
	}
	return g
}

// anyFormula returns a formula of any form.
func anyFormula(r *rand.Rand, depth int) F {
	pool := []int{-1, 0, 1, 2, 3, 63, 64, 4095, 4096}
	f := F{Op: syntax.Op(r.Intn(20)), N: max(0, r.Intn(30)-25)}
	for range r.Intn(4) {
		f.Roles = append(f.Roles, pool[r.Intn(len(pool))])
	}
	if depth > 1 {
		for range r.Intn(4) {
			f.Args = append(f.Args, anyFormula(r, depth-1))
		}
	}
	return f
}

// mentioned adds the roles in a formula to a set, by definition.
func mentioned(f F, set map[int]bool) {
	for _, r := range f.Roles {
		set[r] = true
	}
	for _, x := range f.Args {
		mentioned(x, set)
	}
}

// P18.3: formulas of any form. Numbers that no set has as members are ignored.
func TestMentioned(t *testing.T) {
	r := rand.New(rand.NewSource(1803))
	for range 5000 {
		f := anyFormula(r, 1+r.Intn(6))
		set := map[int]bool{}
		mentioned(f, set)
		s := formula.Mentioned(f)
		for i := range bits.MaxMember + 1 {
			if s.Has(i) != set[i] {
				t.Fatalf("Mentioned of %v: %s", f, s.Text())
			}
		}
	}
	for want, f := range map[string]F{
		"{1 2}":  sod(),
		"{}":     {},
		"{0 5}":  {Op: 99, N: -1, Roles: []int{5, 0, 5, -3}},
		"{3}":    op(syntax.True, op(syntax.Number, members(3))),
		"{7}":    endless(7),
		"{8}":    folded(8),
		"{9}":    tower(1000000, role(9)),
		"{1 63}": {Op: syntax.And, Args: append(slices.Repeat([]F{role(63)}, 1000000), role(1))},
	} {
		if s := formula.Mentioned(f); s.Text() != want {
			t.Errorf("Mentioned: %s, not %s", s.Text(), want)
		}
	}
}

// copied returns a formula that shares no memory with another one.
func copied(f F) F {
	g := F{Op: f.Op, N: f.N, Roles: slices.Clone(f.Roles)}
	for _, x := range f.Args {
		g.Args = append(g.Args, copied(x))
	}
	return g
}

// variants returns formulas that differ from one in a single field somewhere.
func variants(f F) []F {
	l := []F{
		{Op: f.Op + 1, N: f.N, Roles: f.Roles, Args: f.Args},
		{Op: f.Op, N: f.N + 1, Roles: f.Roles, Args: f.Args},
		{Op: f.Op, N: f.N, Roles: append(slices.Clone(f.Roles), 1), Args: f.Args},
		{Op: f.Op, N: f.N, Roles: f.Roles, Args: append(slices.Clone(f.Args), role(1))},
	}
	for i, n := range f.Roles {
		roles := slices.Clone(f.Roles)
		roles[i] = n + 1
		l = append(l, F{Op: f.Op, N: f.N, Roles: roles, Args: f.Args}, F{Op: f.Op, N: f.N, Roles: slices.Delete(slices.Clone(f.Roles), i, i+1), Args: f.Args})
	}
	for i, x := range f.Args {
		for _, y := range variants(x) {
			args := slices.Clone(f.Args)
			args[i] = y
			l = append(l, F{Op: f.Op, N: f.N, Roles: f.Roles, Args: args})
		}
		l = append(l, F{Op: f.Op, N: f.N, Roles: f.Roles, Args: slices.Delete(slices.Clone(f.Args), i, i+1)})
	}
	return l
}

// P18.7: Equal compares each field of each operand.
func TestEqual(t *testing.T) {
	r := rand.New(rand.NewSource(1807))
	for range 300 {
		f := anyFormula(r, 4)
		if g := copied(f); !formula.Equal(f, g) || !formula.Equal(g, f) || !formula.Equal(f, f) {
			t.Fatalf("%v is not equal to its copy", f)
		}
		for _, g := range variants(f) {
			if formula.Equal(f, g) || formula.Equal(g, f) {
				t.Fatalf("%v is equal to %v", f, g)
			}
		}
	}
	for _, pair := range [][2]F{
		{op(syntax.Or, role(1), role(2)), op(syntax.Or, role(2), role(1))},
		{count(1, 2), count(2, 1)},
		{op(syntax.And, role(1), op(syntax.And, role(1), role(1))), op(syntax.And, op(syntax.And, role(1), role(1)), role(1))},
	} {
		if formula.Equal(pair[0], pair[1]) {
			t.Errorf("%v is equal to %v", pair[0], pair[1])
		}
	}
	if !formula.Equal(F{}, F{Roles: []int{}, Args: []F{}}) {
		t.Error("an empty list is not equal to nil")
	}
}

// P18.7, P1: Equal ends for formulas that are large, or have no end.
func TestEqualLarge(t *testing.T) {
	differs := op(syntax.Or, folded(1), op(syntax.Or, folded(1), folded(2)))
	for _, c := range []struct {
		f, g F
		want bool
	}{
		{endless(1), endless(1), true}, {endless(1), endless(2), false}, {endless(1), op(syntax.And, role(1), endless(1)), true}, {endless(1), op(syntax.And, role(2), endless(1)), false}, {endless(1), op(syntax.And, role(1), role(1)), false},
		{folded(1), folded(1), true}, {folded(1), folded(2), false}, {folded(1), op(syntax.Or, folded(1), folded(1)), false}, {differs, copiedTop(differs), true}, {differs, op(syntax.Or, folded(1), op(syntax.Or, folded(1), folded(1))), false},
		{tower(200000, role(1)), tower(200000, role(1)), true}, {tower(200000, role(1)), tower(200000, role(2)), false}, {tower(200000, role(1)), tower(200001, role(1)), false},
	} {
		if formula.Equal(c.f, c.g) != c.want || formula.Equal(c.g, c.f) != c.want {
			t.Errorf("Equal of large formulas is not %v", c.want)
		}
	}
}

// copiedTop returns a formula with the same operands at other places.
func copiedTop(f F) F {
	return F{Op: f.Op, N: f.N, Roles: f.Roles, Args: slices.Clone(f.Args)}
}

// P18.7: EqualConstraint compares each field.
func TestEqualConstraint(t *testing.T) {
	c := C{Enforce: true, Kind: syntax.Static, Name: "sod", Formula: sod()}
	if !formula.EqualConstraint(c, C{Enforce: true, Kind: syntax.Static, Name: "sod", Formula: sod()}) || !formula.EqualConstraint(C{}, C{}) {
		t.Error("not equal")
	}
	for _, d := range []C{
		{Kind: syntax.Static, Name: "sod", Formula: sod()},
		{Enforce: true, Kind: syntax.Dynamic, Name: "sod", Formula: sod()},
		{Enforce: true, Kind: syntax.Static, Name: "so", Formula: sod()},
		{Enforce: true, Kind: syntax.Static, Name: "sod", Formula: op(syntax.Le, count(1, 2), number(2))},
		{},
	} {
		if formula.EqualConstraint(c, d) || formula.EqualConstraint(d, c) {
			t.Errorf("equal to %v", d)
		}
	}
	bad := C{Kind: 9, Name: "by", Formula: F{Op: 99, N: -1, Roles: []int{-1}}}
	if !formula.EqualConstraint(bad, C{Kind: 9, Name: "by", Formula: copied(bad.Formula)}) {
		t.Error("constraints of a wrong form are not equal")
	}
}

// The types are numbered as the chapter says.
func TestTypes(t *testing.T) {
	if formula.Bool != 1 || formula.Int != 2 {
		t.Error("the types have other numbers")
	}
}
