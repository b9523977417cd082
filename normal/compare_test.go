package normal_test

import (
	"math/rand"
	"testing"

	"arbac/formula"
	"arbac/normal"
	"arbac/syntax"
)

// relation tells by all sets of roles whether whatever satisfies f satisfies g, and the other way round.
func relation(f, g F) (forth, back bool) {
	forth, back = true, true
	for _, s := range subsets(formula.Mentioned(f).Or(formula.Mentioned(g)).List()) {
		if violates(g)(s) && !violates(f)(s) {
			forth = false
		}
		if violates(f)(s) && !violates(g)(s) {
			back = false
		}
	}
	return forth, back
}

// wantRelation checks all that compares two formulas.
func wantRelation(t *testing.T, f, g F, forth, back bool) {
	t.Helper()
	if normal.Implied(f, g) != forth || normal.Implied(g, f) != back {
		t.Fatalf("%v, %v: Implied is %v and %v", f, g, normal.Implied(f, g), normal.Implied(g, f))
	}
	if both := forth && back; normal.Equivalent(f, g) != both || normal.Equivalent(g, f) != both {
		t.Fatalf("%v, %v: Equivalent is not %v", f, g, both)
	}
}

// another returns a formula that is written in another way, and mostly means the same.
func another(r *rand.Rand, f, g F) F {
	switch r.Intn(8) {
	case 0:
		return not(not(f))
	case 1:
		return op(syntax.And, op(syntax.Or, f, g), f)
	case 2:
		return op(syntax.Implies, not(f), f)
	case 3:
		return op(syntax.And, f, g)
	case 4:
		return op(syntax.Or, g, f)
	case 5:
		return op(syntax.Or, op(syntax.And, f, g), op(syntax.And, f, not(g)))
	case 6:
		return not(f)
	}
	return g
}

// P19.4: pairs of random formulas. Their roles may differ.
func TestCompareRandom(t *testing.T) {
	r := rand.New(rand.NewSource(1904))
	seen := map[[2]bool]int{}
	for range 4000 {
		roles := pick(r, 6)
		f := random(r, roles[:1+r.Intn(4)], 1+r.Intn(4))
		g := random(r, roles[r.Intn(4):], 1+r.Intn(4))
		g = another(r, f, g)
		forth, back := relation(f, g)
		wantRelation(t, f, g, forth, back)
		seen[[2]bool{forth, back}]++
	}
	for _, x := range [][2]bool{{false, false}, {false, true}, {true, false}, {true, true}} {
		if seen[x] < 300 {
			t.Errorf("%v: only %d times", x, seen[x])
		}
	}
}

// P19.4: pairs of which the answer can be told by hand, some with more roles together than one formula may have.
func TestCompareEdges(t *testing.T) {
	yes, no := op(syntax.True), op(syntax.False)
	low, high := atMost(3, 1, 2, 3, 4, 5, 6, 7, 8), atMost(3, 11, 12, 13, 14, 15, 16, 17, 63)
	idle := op(syntax.Le, count(21, 22, 23, 24, 25, 26, 27, 28), number(8))
	for _, x := range []struct {
		f, g        F
		forth, back bool
	}{
		{yes, yes, true, true}, {no, no, true, true}, {yes, no, false, true}, {no, role(1), true, false}, {role(1), yes, true, false},
		{role(1), role(2), false, false}, {role(1), op(syntax.Or, role(1), role(2)), true, false}, {role(1), op(syntax.Ge, count(1), number(1)), true, true},
		{low, high, false, false}, {low, low, true, true}, {no, high, true, false}, {low, idle, true, false}, {yes, idle, true, true}, {idle, atMost(1, 31), true, true}, {no, not(idle), true, true},
		{atMost(1, 1, 2, 3), atMost(1, 1, 2), true, false}, {atMost(1, 1, 2, 3), atMost(2, 1, 2, 3), true, false}, {atMost(1, 1, 2), not(op(syntax.And, role(2), role(1))), true, true},
		{op(syntax.Implies, role(1), role(2)), op(syntax.Implies, not(role(2)), not(role(1))), true, true},
	} {
		wantRelation(t, x.f, x.g, x.forth, x.back)
	}
}

// P19.4: a formula with an error is neither equivalent to anything, nor implied, not even by itself.
func TestCompareErrors(t *testing.T) {
	for _, f := range faults() {
		for _, g := range append(faults(), f, op(syntax.True), op(syntax.False), role(1)) {
			if normal.Equivalent(f, g) || normal.Equivalent(g, f) || normal.Implied(f, g) || normal.Implied(g, f) {
				t.Errorf("a formula with error %d is compared with one with error %d", formula.Check(f, syntax.Static), formula.Check(g, syntax.Static))
			}
		}
	}
}
