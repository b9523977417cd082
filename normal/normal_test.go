package normal_test

import (
	"math/rand"
	"slices"
	"testing"

	"arbac/api"
	"arbac/bits"
	"arbac/cube"
	"arbac/formula"
	"arbac/meaning"
	"arbac/normal"
	"arbac/syntax"
)

// F and C are short for formulas and cubes.
type (
	F = formula.Formula
	C = cube.Cube
)

// op returns a formula of an operator and operands; role, count and number return formulas without operands.
func op(o syntax.Op, l ...F) F { return F{Op: o, Args: l} }
func role(r int) F             { return F{Op: syntax.Role, Roles: []int{r}} }
func count(l ...int) F         { return F{Op: syntax.Count, Roles: l} }
func number(n int) F           { return F{Op: syntax.Number, N: n} }

// not and atMost are short for two operators.
func not(f F) F                { return op(syntax.Not, f) }
func atMost(n int, l ...int) F { return op(syntax.Le, count(l...), number(n)) }

// random returns a random formula of the type Bool over some roles.
func random(r *rand.Rand, roles []int, depth int) F {
	if depth <= 1 || r.Intn(8) == 0 {
		return []F{role(roles[r.Intn(len(roles))]), op(syntax.True + syntax.Op(r.Intn(2)))}[r.Intn(9)/8]
	}
	switch r.Intn(6) {
	case 0:
		return not(random(r, roles, depth-1))
	case 1, 2:
		return op(syntax.Le+syntax.Op(r.Intn(5)), randomNumber(r, roles, depth-1), randomNumber(r, roles, depth-1))
	}
	return op(syntax.And+syntax.Op(r.Intn(3)), random(r, roles, depth-1), random(r, roles, depth-1))
}

// randomNumber returns one of the type Int.
func randomNumber(r *rand.Rand, roles []int, depth int) F {
	switch {
	case depth > 1 && r.Intn(4) == 0:
		return op(syntax.Add, randomNumber(r, roles, depth-1), randomNumber(r, roles, depth-1))
	case r.Intn(3) == 0:
		return number(r.Intn(4))
	}
	l := r.Perm(len(roles))[:1+r.Intn(len(roles))]
	for i := range l {
		l[i] = roles[l[i]]
	}
	return count(l...)
}

// pick returns n random roles.
func pick(r *rand.Rand, n int) []int {
	l := r.Perm(api.MaxRoles)[:n]
	for i := range l {
		l[i]++
	}
	return l
}

// faults are formulas that are refused.
func faults() []F {
	nine := op(syntax.And, atMost(1, 1, 2, 3, 4, 5, 6, 7, 8), role(9))
	deep := role(1)
	for range 10 {
		deep = not(deep)
	}
	endless := op(syntax.And, role(1), role(1))
	endless.Args[1] = endless
	return []F{
		{}, {Op: 17}, nine, deep, endless, count(1), number(1), not(number(1)), role(0), role(64), atMost(1, 1, 1), atMost(1, 1, 64), atMost(1000000, 1), op(syntax.And, role(1)),
		{Op: syntax.True, N: 1}, op(syntax.Le, F{Op: syntax.Members, Roles: []int{1}}, number(3)), op(syntax.Le, F{Op: syntax.Count}, number(3)), op(syntax.Eq, role(1), role(2)),
	}
}

// subsets returns all sets of some roles.
func subsets(roles []int) []bits.Set {
	out := []bits.Set{{}}
	for _, i := range roles {
		for _, s := range slices.Clone(out) {
			out = append(out, s.With(i))
		}
	}
	return out
}

// violates reports whether a formula is false of a set, by layer 20.
func violates(f F) func(bits.Set) bool {
	return func(s bits.Set) bool { return !meaning.Holds(f, s, nil) }
}

// implicants returns the cubes over some roles, none of them empty, all of whose sets pass a test, by definition.
func implicants(roles []int, test func(bits.Set) bool) []C {
	all := []C{{}}
	for _, i := range roles {
		for _, c := range slices.Clone(all) {
			all = append(all, C{Yes: c.Yes.With(i), No: c.No}, C{Yes: c.Yes, No: c.No.With(i)})
		}
	}
	var failing []bits.Set
	for _, s := range subsets(roles) {
		if !test(s) {
			failing = append(failing, s)
		}
	}
	return slices.DeleteFunc(all, func(c C) bool {
		return slices.ContainsFunc(failing, func(s bits.Set) bool { return cube.Holds(c, s) })
	})
}

// primes returns the implicants of which none with fewer of their literals is an implicant.
func primes(roles []int, test func(bits.Set) bool) []C {
	all := implicants(roles, test)
	var l []C
	for _, c := range all {
		fewer := func(p C) bool { return p.Yes.Within(c.Yes) && p.No.Within(c.No) && !cube.Equal(p, c) }
		if !slices.ContainsFunc(all, fewer) {
			l = append(l, c)
		}
	}
	slices.SortFunc(l, cube.Compare)
	return l
}

// parse returns the cubes with some texts.
func parse(t *testing.T, l ...string) []C {
	t.Helper()
	var out []C
	for _, s := range l {
		c, e := cube.Parse(s)
		if e != api.OK {
			t.Fatalf("Parse(%q): %d", s, e)
		}
		out = append(out, c)
	}
	return out
}

// texts returns the texts of cubes, for messages.
func texts(l []C) []string {
	var out []string
	for _, c := range l[:min(len(l), 50)] {
		out = append(out, c.Text())
	}
	return out
}

// wantCubes checks a list of cubes, and an error.
func wantCubes(t *testing.T, what any, got []C, e api.Errno, want []C, f api.Errno) {
	t.Helper()
	if e != f || !slices.EqualFunc(got, want, cube.Equal) {
		t.Fatalf("%v: %q, error %d; not %q, error %d", what, texts(got), e, texts(want), f)
	}
}

// P19.1: formulas whose normal forms can be told by hand.
func TestViolationsExamples(t *testing.T) {
	yes, no := op(syntax.True), op(syntax.False)
	for _, x := range []struct {
		f    F
		want []string
	}{
		// The examples of the chapter.
		{atMost(1, 1, 2, 3), []string{"1 2", "1 3", "2 3"}},
		{op(syntax.Implies, role(1), role(2)), []string{"1 !2"}},
		{yes, nil}, {no, []string{"full"}}, {not(no), nil}, {op(syntax.Le, number(2), number(1)), []string{"full"}},
		{role(1), []string{"!1"}}, {not(role(63)), []string{"63"}}, {op(syntax.Or, role(1), not(role(1))), nil}, {op(syntax.And, role(1), not(role(1))), []string{"full"}},
		{op(syntax.And, role(2), role(1)), []string{"!1", "!2"}}, {op(syntax.Or, role(2), role(1)), []string{"!1 !2"}},
		{op(syntax.Eq, count(1), count(2)), []string{"1 !2", "!1 2"}}, {op(syntax.Eq, count(2, 1), number(1)), []string{"!1 !2", "1 2"}},
		// Roles that are mentioned, but do not matter.
		{op(syntax.Or, op(syntax.And, role(1), role(2)), op(syntax.And, role(1), not(role(2)))), []string{"!1"}},
		{op(syntax.And, role(5), op(syntax.Ge, count(1, 2, 3, 4, 6, 7, 8), number(0))), []string{"!5"}},
		// A cube that holds of what two others leave in between.
		{not(op(syntax.Or, op(syntax.And, role(1), role(2)), op(syntax.And, role(3), not(role(1))))), []string{"1 2", "2 3", "!1 3"}},
		{op(syntax.Lt, op(syntax.Add, count(1, 2), number(1)), op(syntax.Add, count(3), number(2))), []string{"1 !3", "1 2", "2 !3"}},
	} {
		got, e := normal.Violations(x.f)
		wantCubes(t, x.f, got, e, parse(t, x.want...), api.OK)
	}
}

// P19.1: as many roles, and as many cubes, as there may be.
func TestViolationsLarge(t *testing.T) {
	roles := []int{63, 2, 3, 40, 5, 6, 7, 8}
	odd := op(syntax.Eq, count(roles...), number(1))
	for _, n := range []int{3, 5, 7} {
		odd = op(syntax.Or, odd, op(syntax.Eq, count(roles...), number(n)))
	}
	for n, f := range map[int]F{
		128: odd, 112: op(syntax.Eq, count(roles...), number(4)), 56: atMost(4, roles...), 8: op(syntax.Eq, count(roles...), number(8)), 1: atMost(7, roles...), 0: atMost(8, roles...),
	} {
		got, e := normal.Violations(f)
		if len(got) != n {
			t.Errorf("%d cubes, not %d", len(got), n)
		}
		wantCubes(t, n, got, e, primes(roles, violates(f)), api.OK)
	}
}

// P19.1: random formulas.
func TestViolationsRandom(t *testing.T) {
	r := rand.New(rand.NewSource(1901))
	lengths := map[int]int{}
	for i := range 3000 {
		n := 1 + r.Intn(4)
		if i%100 == 0 {
			n = 5 + r.Intn(4)
		}
		f := random(r, pick(r, n), 1+r.Intn(6))
		got, e := normal.Violations(f)
		wantCubes(t, f, got, e, primes(formula.Mentioned(f).List(), violates(f)), api.OK)
		lengths[len(got)]++
		// Nobody changes the next result by changing this one.
		clear(got)
		again, _ := normal.Violations(f)
		if slices.ContainsFunc(again, func(c C) bool { return len(again) > 1 && cube.Equal(c, C{}) }) {
			t.Fatalf("%v: a caller has changed a normal form", f)
		}
	}
	for n := range 4 {
		if lengths[n] < 50 {
			t.Errorf("only %d formulas have %d cubes", lengths[n], n)
		}
	}
}

// P19.1: the errors are those of formula.Check.
func TestViolationsErrors(t *testing.T) {
	seen := map[api.Errno]bool{}
	for i, f := range faults() {
		want := formula.Check(f, syntax.Static)
		if got, e := normal.Violations(f); e != want || e == api.OK || len(got) > 0 {
			t.Errorf("formula %d: %q, error %d, not %d", i, texts(got), e, want)
		}
		seen[want] = true
	}
	for _, e := range []api.Errno{api.ErrArg, api.ErrLimit, api.ErrForm, api.ErrRange, api.ErrExists, api.ErrType} {
		if !seen[e] {
			t.Errorf("error %d has not come", e)
		}
	}
}

// P19.3: whatever else is in a set, it violates a formula if it satisfies its normal form.
func TestViolatedBy(t *testing.T) {
	r := rand.New(rand.NewSource(1903))
	violated := 0
	for range 2000 {
		f := random(r, pick(r, 1+r.Intn(8)), 2+r.Intn(4))
		l, _ := normal.Violations(f)
		for range 30 {
			s := bits.Of(append(r.Perm(200)[:r.Intn(60)], pick(r, r.Intn(40))...)...)
			for _, i := range formula.Mentioned(f).List() {
				if r.Intn(2) == 0 {
					s = s.With(i)
				} else {
					s = s.Without(i)
				}
			}
			if violates(f)(s) != cube.Some(l, s) {
				t.Fatalf("%v: %s satisfies %q: %v", f, s.Text(), texts(l), cube.Some(l, s))
			}
			if cube.Some(l, s) {
				violated++
			}
		}
	}
	if violated < 10000 || violated > 50000 {
		t.Errorf("%d sets violate", violated)
	}
}

// P19.3: the truth depends on each role that a normal form mentions, and on no other one.
func TestMentioned(t *testing.T) {
	r := rand.New(rand.NewSource(1933))
	less := 0
	for range 1000 {
		f := random(r, pick(r, 1+r.Intn(5)), 2+r.Intn(4))
		l, _ := normal.Violations(f)
		roles := formula.Mentioned(f)
		var matter bits.Set
		for i := range roles.All() {
			for _, s := range subsets(roles.Without(i).List()) {
				if violates(f)(s) != violates(f)(s.With(i)) {
					matter = matter.With(i)
				}
			}
		}
		if !cube.Mentioned(l).Equal(matter) {
			t.Fatalf("%v: %q mentions others than %s", f, texts(l), matter.Text())
		}
		if !matter.Equal(roles) {
			less++
		}
	}
	if less < 100 || less > 900 {
		t.Errorf("%d formulas mention more", less)
	}
}
