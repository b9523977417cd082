package witness_test

import (
	"math/rand"
	"slices"
	"strings"
	"testing"

	"arbac/api"
	"arbac/bits"
	"arbac/cube"
	"arbac/formula"
	"arbac/meaning"
	"arbac/names"
	"arbac/normal"
	"arbac/parser"
	"arbac/syntax"
	"arbac/witness"
)

// F, C and S are short for formulas, cubes and sets.
type (
	F = formula.Formula
	C = cube.Cube
	S = bits.Set
)

// letters is a table with a role for each letter: a is 1, b is 2, up to p, which is 16.
func letters(t *testing.T) *names.Table {
	t.Helper()
	table, e := names.Of(strings.Split("abcdefghijklmnop", ""), api.MaxRoles)
	if e != api.OK {
		t.Fatal(e)
	}
	return table
}

// parsed returns the formula with a text over the letters.
func parsed(t *testing.T, s string) F {
	t.Helper()
	x, _, e := parser.Expr(s)
	if e != api.OK {
		t.Fatalf("%q: error %d", s, e)
	}
	f, e := formula.Resolve(x, syntax.Static, letters(t), S{})
	if e != api.OK {
		t.Fatalf("%q: error %d", s, e)
	}
	return f
}

// cubed returns the cube with a text.
func cubed(t *testing.T, s string) C {
	t.Helper()
	c, e := cube.Parse(s)
	if e != api.OK {
		t.Fatalf("%q: error %d", s, e)
	}
	return c
}

// random returns the text of a random condition on the first few letters.
func random(r *rand.Rand, few, depth int) string {
	letter := func() string { return string(rune('a' + r.Intn(few))) }
	switch r.Intn(6 - 5*(depth/3)) {
	case 0:
		return letter()
	case 1:
		return "not (" + random(r, few, depth+1) + ")"
	case 2:
		l := strings.Split("abcdefgh"[:few], "")
		r.Shuffle(len(l), func(i, j int) { l[i], l[j] = l[j], l[i] })
		l = l[:1+r.Intn(few)]
		return "count(" + strings.Join(l, ", ") + ") " + []string{"<=", ">=", "==", "<"}[r.Intn(4)] + " " + string(rune('0'+r.Intn(len(l)+1)))
	}
	return "(" + random(r, few, depth+1) + ") " + []string{"and", "or", "->"}[r.Intn(3)] + " (" + random(r, few, depth+1) + ")"
}

// randomSet returns a set of some of the numbers from 1 to most.
func randomSet(r *rand.Rand, most int) S {
	var s S
	for i := 1; i <= most; i++ {
		if r.Intn(2) > 0 {
			s = s.With(i)
		}
	}
	return s
}

// faults are formulas that are refused.
func faults() []F {
	role := func(i int) F { return F{Op: syntax.Role, Roles: []int{i}} }
	nine := F{Op: syntax.True}
	for i := range 9 {
		nine = F{Op: syntax.And, Args: []F{nine, role(i + 1)}}
	}
	members := F{Op: syntax.Lt, Args: []F{{Op: syntax.Members, Roles: []int{1}}, {Op: syntax.Number, N: 1}}}
	endless := F{Op: syntax.Not, Args: []F{role(1)}}
	endless.Args[0] = endless
	return []F{{}, {Op: 99}, role(0), role(64), nine, members, endless, {Op: syntax.Number, N: 1}, {Op: syntax.Not}, {Op: syntax.True, N: 1}}
}

// subsets returns all subsets of a set.
func subsets(of S) []S {
	out := []S{{}}
	for i := range of.All() {
		for _, s := range slices.Clone(out) {
			out = append(out, s.With(i))
		}
	}
	return out
}

// implies reports whether a cube implies the violation of a formula, by definition: roles that neither mentions play no part.
func implies(f F, c C) bool {
	some := false
	for _, s := range subsets(formula.Mentioned(f).Or(c.Yes).Or(c.No)) {
		if c.Yes.Within(s) && !c.No.Meets(s) {
			some = true
			if meaning.Holds(f, s, nil) {
				return false
			}
		}
	}
	return some
}

// isWitness reports whether a cube is a witness that a set violates a formula, by definition.
func isWitness(f F, roles S, c C) bool {
	if !c.Yes.Within(roles) || c.No.Meets(roles) || !implies(f, c) {
		return false
	}
	for _, yes := range subsets(c.Yes) {
		for _, no := range subsets(c.No) {
			if yes.Len()+no.Len() < c.Yes.Len()+c.No.Len() && implies(f, C{Yes: yes, No: no}) {
				return false
			}
		}
	}
	return true
}

// witnesses returns all cubes over some roles that are witnesses that a set violates a formula, ascending.
func witnesses(f F, roles, over S) []C {
	var l []C
	for _, s := range subsets(over) {
		// A cube that the set satisfies can require of each role only what is so.
		if c := (C{Yes: s.And(roles), No: s.Minus(roles)}); isWitness(f, roles, c) {
			l = append(l, c)
		}
	}
	slices.SortFunc(l, cube.Compare)
	return l
}

// check compares Of and Least with the definitions of a witness; it returns how many there are.
func check(t *testing.T, text string, roles S, others []C) int {
	t.Helper()
	f := parsed(t, text)
	l := witnesses(f, roles, formula.Mentioned(f).With(20))
	got, ok := witness.Of(f, roles)
	if ok != (len(l) > 0) || ok == meaning.Holds(f, roles, nil) || ok && !cube.Equal(got, l[0]) || !ok && !cube.Equal(got, C{}) {
		t.Fatalf("%s: Of %s is %q, %v; the witnesses are %v", text, roles.Text(), got.Text(), ok, l)
	}
	for _, c := range l {
		if !witness.Least(f, roles, c) {
			t.Fatalf("%s: %q is a witness for %s", text, c.Text(), roles.Text())
		}
	}
	for _, c := range others {
		if witness.Least(f, roles, c) != isWitness(f, roles, c) {
			t.Fatalf("%s: Least of %q for %s", text, c.Text(), roles.Text())
		}
	}
	return len(l)
}

// P21.1, P21.2: the examples of the chapter, and others that can be told by hand.
func TestExamples(t *testing.T) {
	for _, x := range []struct {
		f     string
		roles S
		first string
		all   []string
	}{
		{"count(a, b, c) <= 1", bits.Of(1, 2, 3), "1 2", []string{"1 2", "1 3", "2 3"}},
		{"a -> b", bits.Of(1, 3), "1 !2", []string{"1 !2"}},
		{"count(a, b, c) <= 1", bits.Of(2, 3, 9), "2 3", []string{"2 3"}},
		{"count(a, b, c) <= 1", bits.Of(0, 1, 3, 64, 4095), "1 3", []string{"1 3"}},
		{"a and b", bits.Of(), "!1", []string{"!1", "!2"}}, {"a and b", bits.Of(1), "!2", []string{"!2"}},
		{"false", bits.Of(5), "full", []string{"full"}}, {"a and not a", bits.Of(1), "full", []string{"full"}},
		{"count(a, b) == 1", bits.Of(), "!1 !2", []string{"!1 !2"}}, {"count(a, b) == 1", bits.Of(1, 2), "1 2", []string{"1 2"}},
		// 1 2 and 3 !1 together imply 2 3, too; the first witness by cube.Compare is not the one with the fewest literals.
		{"not (a and b or c and not a)", bits.Of(2, 3), "2 3", []string{"2 3", "!1 3"}},
		{"not (b or a and c)", bits.Of(1, 2, 3), "1 3", []string{"1 3", "2"}},
	} {
		f := parsed(t, x.f)
		c, ok := witness.Of(f, x.roles)
		if !ok || c.Text() != x.first {
			t.Errorf("%s: Of %s is %q, %v", x.f, x.roles.Text(), c.Text(), ok)
		}
		for _, s := range x.all {
			if !witness.Least(f, x.roles, cubed(t, s)) {
				t.Errorf("%s: %q is a witness for %s", x.f, s, x.roles.Text())
			}
		}
		if n := check(t, x.f, x.roles, nil); n != len(x.all) {
			t.Errorf("%s: %d witnesses for %s", x.f, n, x.roles.Text())
		}
	}
}

// P21.2: cubes that are no witnesses.
func TestLeastRefuses(t *testing.T) {
	f := parsed(t, "count(a, b, c) <= 1")
	for _, x := range []struct {
		c     string
		roles S
	}{
		{"1 2", bits.Of(1, 3)}, {"1 2", bits.Of()}, {"1 2", bits.Of(1, 2).Without(2)}, // not of this set
		{"1", bits.Of(1, 2)}, {"full", bits.Of(1, 2)}, {"1 !3", bits.Of(1, 2)}, {"4 5", bits.Of(1, 2, 4, 5)}, // imply nothing
		{"1 2 3", bits.Of(1, 2, 3)}, {"1 2 !3", bits.Of(1, 2)}, {"1 2 9", bits.Of(1, 2, 9)}, {"1 2 !9", bits.Of(1, 2)}, // are not least
		{"1 !1", bits.Of(1, 2)}, {"1 !1 2", bits.Of(1, 2)}, // no set satisfies them
	} {
		if c := cubed(t, x.c); witness.Least(f, x.roles, c) || isWitness(f, x.roles, c) {
			t.Errorf("%q is no witness for %s", x.c, x.roles.Text())
		}
	}
	if c, ok := witness.Of(f, bits.Of(1)); ok || !cube.Equal(c, C{}) {
		t.Errorf("Of: %q, %v", c.Text(), ok)
	}
}

// P21.1, P21.2: random formulas and sets.
func TestWitnessesRandom(t *testing.T) {
	r := rand.New(rand.NewSource(211))
	lengths := map[int]int{}
	for range 1500 {
		var others []C
		for range 8 {
			s := randomSet(r, 7)
			others = append(others, C{Yes: s.And(randomSet(r, 7)), No: s.And(randomSet(r, 7))})
		}
		lengths[check(t, random(r, 2+r.Intn(4), 0), randomSet(r, 7), others)]++
	}
	for n := range 4 {
		if lengths[n] < 20 {
			t.Errorf("only %d sets have %d witnesses", lengths[n], n)
		}
	}
}

// P21.1, P21.2, P19.3: a set violates a formula exactly if there is a witness, and the witnesses are the cubes of the normal form that it satisfies.
func TestWitnessesAreOfTheNormalForm(t *testing.T) {
	r := rand.New(rand.NewSource(212))
	for range 300 {
		text, roles := random(r, 8, 0), randomSet(r, 9)
		f := parsed(t, text)
		l, _ := normal.Violations(f)
		for _, c := range l {
			if witness.Least(f, roles, c) != cube.Holds(c, roles) {
				t.Fatalf("%s: Least of %q for %s", text, c.Text(), roles.Text())
			}
		}
		l = slices.DeleteFunc(l, func(c C) bool { return !cube.Holds(c, roles) })
		if c, ok := witness.Of(f, roles); ok == meaning.Holds(f, roles, nil) || ok != (len(l) > 0) || ok && !cube.Equal(c, l[0]) {
			t.Fatalf("%s: Of %s is %q, %v", text, roles.Text(), c.Text(), ok)
		}
	}
}

// P21.1, P21.2: there is no witness for a formula that Check refuses.
func TestWitnessErrors(t *testing.T) {
	for i, f := range faults() {
		for _, roles := range []S{{}, bits.Of(1), bits.Below(65)} {
			if c, ok := witness.Of(f, roles); ok || !cube.Equal(c, C{}) {
				t.Errorf("Of of formula %d: %q, %v", i, c.Text(), ok)
			}
			for _, c := range []C{{}, {Yes: bits.Of(1)}, {No: bits.Of(1)}} {
				if witness.Least(f, roles, c) {
					t.Errorf("Least of formula %d: %q", i, c.Text())
				}
			}
		}
	}
}

// P21.5
func TestText(t *testing.T) {
	table := letters(t)
	longer, e := names.Of([]string{"clerk", "auditor"}, 2)
	if e != api.OK {
		t.Fatal(e)
	}
	for _, x := range []struct {
		c     C
		table *names.Table
		want  string
	}{
		{C{Yes: bits.Of(1), No: bits.Of(2)}, nil, "has 1, lacks 2"},
		{C{Yes: bits.Of(1), No: bits.Of(2)}, names.New(), "has 1, lacks 2"},
		{C{Yes: bits.Of(1), No: bits.Of(2)}, longer, "has clerk, lacks auditor"},
		{C{Yes: bits.Of(2, 1, 3)}, longer, "has clerk and auditor and 3"},
		{C{No: bits.Of(2, 1, 30)}, longer, "lacks clerk and auditor and 30"},
		{C{Yes: bits.Of(2, 10), No: bits.Of(1, 11)}, nil, "has 2 and 10, lacks 1 and 11"},
		{C{Yes: bits.Of(16, 17), No: bits.Of(9, 63)}, table, "has p and 17, lacks i and 63"},
		{C{}, nil, "any roles"}, {C{}, table, "any roles"},
		// Any numbers are permitted in a cube, and a role both in Yes and in No.
		{C{Yes: bits.Of(0, 1), No: bits.Of(1, 64, 4095)}, table, "has 0 and a, lacks a and 64 and 4095"},
	} {
		if got := witness.Text(x.c, x.table); got != x.want {
			t.Errorf("Text of %q: %q, not %q", x.c.Text(), got, x.want)
		}
	}
}
