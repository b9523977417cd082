package cube_test

import (
	"math/rand"
	"slices"
	"testing"

	"arbac/bits"
	"arbac/cube"
)

// C is short for tables of cubes.
type C = cube.Cube

// members are the numbers that random cubes mention: roles, and other ones.
var members = []int{0, 1, 2, 3, 63, 64, 4095}

// world are all sets of these members.
var world = subsets(members)

// subsets returns all sets of some members.
func subsets(l []int) []bits.Set {
	out := []bits.Set{{}}
	for _, i := range l {
		for _, s := range slices.Clone(out) {
			out = append(out, s.With(i))
		}
	}
	return out
}

// lit is a literal: a role that is there, or not.
type lit struct {
	role int
	no   bool
}

// lits returns the literals of a cube, in their order.
func lits(c C) []lit {
	var l []lit
	for i := range c.Yes.Or(c.No).All() {
		if c.Yes.Has(i) {
			l = append(l, lit{i, false})
		}
		if c.No.Has(i) {
			l = append(l, lit{i, true})
		}
	}
	return l
}

// of returns the cube with some literals.
func of(l ...lit) C {
	var yes, no []int
	for _, x := range l {
		if x.no {
			no = append(no, x.role)
		} else {
			yes = append(yes, x.role)
		}
	}
	return C{Yes: bits.Of(yes...), No: bits.Of(no...)}
}

// yes, no and both return the cubes with some roles in Yes, in No, and in both of them.
func yes(l ...int) C { return C{Yes: bits.Of(l...)} }
func no(l ...int) C  { return C{No: bits.Of(l...)} }
func both(l ...int) C {
	return C{Yes: bits.Of(l...), No: bits.Of(l...)}
}

// and returns the cube with the literals of some cubes.
func and(l ...C) C {
	var out C
	for _, c := range l {
		out = C{Yes: out.Yes.Or(c.Yes), No: out.No.Or(c.No)}
	}
	return out
}

// satisfies reports whether a set satisfies one of some cubes, as the definition says.
func satisfies(s bits.Set, l ...C) bool {
	for _, c := range l {
		if !slices.ContainsFunc(lits(c), func(x lit) bool { return s.Has(x.role) == x.no }) {
			return true
		}
	}
	return false
}

// sat returns for each set of the world whether it satisfies one of some cubes.
func sat(l ...C) []bool {
	out := make([]bool, len(world))
	for i, s := range world {
		out[i] = satisfies(s, l...)
	}
	return out
}

// random returns a random cube; now and then an empty one, or the full one.
func random(r *rand.Rand) C {
	var l []lit
	few := 2 + r.Intn(3)
	for _, i := range members {
		if r.Intn(few) == 0 {
			l = append(l, lit{i, r.Intn(2) == 0})
		}
	}
	if len(l) > 0 && r.Intn(12) == 0 {
		l = append(l, lit{l[0].role, !l[0].no})
	}
	return of(l...)
}

// same reports whether two lists have equal cubes.
func same(a, b []C) bool {
	return slices.EqualFunc(a, b, equal)
}

// equal reports whether two cubes have the same literals.
func equal(a, b C) bool {
	return a.Yes.Equal(b.Yes) && a.No.Equal(b.No)
}

// texts returns the texts of cubes, for messages.
func texts(l ...C) []string {
	var out []string
	for _, c := range l {
		out = append(out, "("+c.Text()+")")
	}
	return out
}

// pair returns two random cubes, now and then near to each other.
func pair(r *rand.Rand) (C, C) {
	a, b := random(r), random(r)
	switch r.Intn(4) {
	case 0:
		return a, and(a, b)
	case 1:
		l := lits(a)
		return a, of(l[:r.Intn(len(l)+1)]...)
	}
	return a, b
}

// P14.1: Empty and Holds.
func TestHolds(t *testing.T) {
	r := rand.New(rand.NewSource(14))
	empty := 0
	for range 500 {
		c := random(r)
		all := sat(c)
		for i, s := range world {
			if cube.Holds(c, s) != all[i] {
				t.Fatalf("Holds(%s, %s) is %v", c.Text(), s.Text(), !all[i])
			}
		}
		if cube.Empty(c) != !slices.Contains(all, true) {
			t.Fatalf("Empty(%s) is %v", c.Text(), cube.Empty(c))
		}
		if cube.Empty(c) {
			empty++
		}
	}
	if empty < 20 {
		t.Errorf("only %d cubes are empty", empty)
	}
}

// P14.1
func TestSome(t *testing.T) {
	r := rand.New(rand.NewSource(15))
	for range 200 {
		l := list(r, r.Intn(5))
		all := sat(l...)
		for i, s := range world {
			if cube.Some(l, s) != all[i] {
				t.Fatalf("Some(%v, %s) is %v", texts(l...), s.Text(), !all[i])
			}
		}
	}
	if cube.Some(nil, bits.Of(1)) || cube.Some([]C{}, bits.Set{}) || !cube.Some([]C{both(1), {}}, bits.Set{}) {
		t.Error("Some of no cubes, or of the full one")
	}
}

// P14.1: Within and Meet.
func TestPairs(t *testing.T) {
	r := rand.New(rand.NewSource(16))
	within, meet := 0, 0
	for range 3000 {
		a, b := pair(r)
		inA, inB := sat(a), sat(b)
		part, common := true, false
		for i := range world {
			part = part && (!inA[i] || inB[i])
			common = common || inA[i] && inB[i]
		}
		if cube.Within(a, b) != part {
			t.Fatalf("Within(%s, %s) is %v", a.Text(), b.Text(), !part)
		}
		want := C{}
		if common {
			want = and(a, b)
		}
		if c, ok := cube.Meet(a, b); ok != common || !equal(c, want) {
			t.Fatalf("Meet(%s, %s): %s, %v", a.Text(), b.Text(), c.Text(), ok)
		}
		if part {
			within++
		}
		if common {
			meet++
		}
	}
	if within < 300 || meet < 300 || meet > 2700 {
		t.Errorf("only %d are within, and %d meet", within, meet)
	}
}

// P14.1: the full cube, and those that no set satisfies.
func TestEdges(t *testing.T) {
	full, one := C{}, yes(1)
	for _, c := range []struct {
		what      string
		got, want bool
	}{
		{"Empty of the full cube", cube.Empty(full), false}, {"Empty of 1 !1", cube.Empty(both(1)), true}, {"Empty of 0 !0", cube.Empty(both(0)), true},
		{"Empty of 4095 !4095", cube.Empty(both(4095)), true}, {"Empty of 1 !2", cube.Empty(and(one, no(2))), false},
		{"Holds of the full cube", cube.Holds(full, bits.Set{}), true}, {"Holds of 1 !1", cube.Holds(both(1), bits.Of(1)), false},
		{"Holds of 1 !1 without 1", cube.Holds(both(1), bits.Set{}), false},
		{"an empty cube within another one", cube.Within(both(1), yes(7)), true}, {"a cube within an empty one", cube.Within(yes(7), both(7)), false},
		{"an empty cube within an empty one", cube.Within(both(1), both(2)), true}, {"1 within the full cube", cube.Within(one, full), true},
		{"the full cube within 1", cube.Within(full, one), false}, {"the full cube within itself", cube.Within(full, full), true},
		{"1 2 within 1", cube.Within(yes(1, 2), one), true}, {"1 within 1 2", cube.Within(one, yes(1, 2)), false}, {"1 within !1", cube.Within(one, no(1)), false},
		{"the full cube within an empty one", cube.Within(full, both(1)), false},
	} {
		if c.got != c.want {
			t.Errorf("%s: %v", c.what, c.got)
		}
	}
	for _, p := range [][2]C{{both(1), full}, {full, both(1)}, {both(1), both(1)}, {one, no(1)}, {yes(1, 2), no(2, 3)}} {
		if c, ok := cube.Meet(p[0], p[1]); ok || !equal(c, full) {
			t.Errorf("Meet(%s, %s): %s, %v", p[0].Text(), p[1].Text(), c.Text(), ok)
		}
	}
	if c, ok := cube.Meet(full, full); !ok || !equal(c, full) {
		t.Errorf("Meet of full cubes: %s, %v", c.Text(), ok)
	}
}

// minus returns Minus(a, b), literal by literal, as the definition says.
func minus(a, b C) []C {
	common := slices.Contains(sat(and(a, b)), true)
	switch {
	case !slices.Contains(sat(a), true):
		return nil
	case !common:
		return []C{a}
	}
	var out []C
	var before []lit
	for _, x := range lits(b) {
		if slices.Contains(lits(a), x) {
			continue
		}
		out = append(out, and(a, of(before...), of(lit{x.role, !x.no})))
		before = append(before, x)
	}
	return out
}

// P14.2
func TestMinus(t *testing.T) {
	r := rand.New(rand.NewSource(17))
	several := 0
	for range 3000 {
		a, b := pair(r)
		got := cube.Minus(a, b)
		if want := minus(a, b); !same(got, want) {
			t.Fatalf("Minus(%s, %s): %v, not %v", a.Text(), b.Text(), texts(got...), texts(want...))
		}
		checkParts(t, got, []C{a}, []C{b})
		if len(got) > 1 {
			several++
		}
	}
	if several < 500 {
		t.Errorf("only %d lists have several cubes", several)
	}
}

// checkParts checks that the sets that satisfy one list, and not another one, satisfy exactly one of some cubes, and no other sets do.
func checkParts(t *testing.T, parts, in, out []C) {
	t.Helper()
	for _, s := range world {
		n := 0
		for _, c := range parts {
			if satisfies(s, c) {
				n++
			}
		}
		want := 0
		if satisfies(s, in...) && !satisfies(s, out...) {
			want = 1
		}
		if n != want {
			t.Fatalf("%v without %v: %s satisfies %d of %v", texts(in...), texts(out...), s.Text(), n, texts(parts...))
		}
	}
}

// P14.2: the full cube, and those that no set satisfies.
func TestMinusEdges(t *testing.T) {
	for _, c := range []struct {
		a, b C
		want []C
	}{
		{C{}, C{}, nil}, {yes(1), C{}, nil}, {both(1), C{}, nil}, {both(1), both(2), nil}, {C{}, both(1), []C{{}}}, {yes(1), both(2), []C{yes(1)}},
		{yes(1), no(1), []C{yes(1)}}, {yes(1), yes(1), nil}, {yes(1, 2), yes(1), nil}, {yes(1), yes(1, 2), []C{and(yes(1), no(2))}},
		{C{}, yes(3, 1), []C{no(1), and(yes(1), no(3))}}, {C{}, no(1, 3), []C{yes(1), and(no(1), yes(3))}},
		{C{}, yes(4095, 0, 64), []C{no(0), and(yes(0), no(64)), and(yes(0, 64), no(4095))}},
		{C{}, and(no(1), yes(2)), []C{yes(1), no(1, 2)}}, {C{}, and(no(2), yes(1)), []C{no(1), yes(1, 2)}},
		// The examples of the chapter.
		{C{}, and(yes(1), no(3)), []C{no(1), yes(1, 3)}}, {yes(1), and(yes(1), no(3)), []C{yes(1, 3)}},
	} {
		if got := cube.Minus(c.a, c.b); !same(got, c.want) {
			t.Errorf("Minus(%s, %s): %v, not %v", c.a.Text(), c.b.Text(), texts(got...), texts(c.want...))
		}
	}
}

// P14.4: Compare and Equal.
func TestCompare(t *testing.T) {
	r := rand.New(rand.NewSource(18))
	equals := 0
	for range 3000 {
		a, b := pair(r)
		want := slices.Compare(a.Yes.List(), b.Yes.List())
		if want == 0 {
			want = slices.Compare(a.No.List(), b.No.List())
		}
		if cube.Compare(a, b) != want || cube.Compare(b, a) != -want {
			t.Fatalf("Compare(%s, %s): %d", a.Text(), b.Text(), cube.Compare(a, b))
		}
		if cube.Equal(a, b) != (want == 0) {
			t.Fatalf("Equal(%s, %s) is %v", a.Text(), b.Text(), cube.Equal(a, b))
		}
		if want == 0 {
			equals++
		}
	}
	if equals < 100 {
		t.Errorf("only %d cubes are equal", equals)
	}
	ascending := []C{{}, no(0), no(1), no(1, 2), no(2), yes(0), and(yes(0), no(0)), yes(1), and(yes(1), no(2)), yes(1, 2), yes(1, 3), yes(2), yes(4095)}
	for i, a := range ascending {
		for j, b := range ascending {
			if cube.Compare(a, b) != min(max(i-j, -1), 1) || cube.Equal(a, b) != (i == j) {
				t.Errorf("Compare(%s, %s): %d, Equal %v", a.Text(), b.Text(), cube.Compare(a, b), cube.Equal(a, b))
			}
		}
	}
}
