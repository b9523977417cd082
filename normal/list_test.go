package normal_test

import (
	"math"
	"math/rand"
	"slices"
	"testing"

	"arbac/api"
	"arbac/bits"
	"arbac/cube"
	"arbac/formula"
	"arbac/normal"
	"arbac/syntax"
)

// randomCube returns a random cube over some roles with at most n literals; it is not empty.
func randomCube(r *rand.Rand, roles []int, n int) C {
	var c C
	for _, i := range r.Perm(len(roles))[:min(n, len(roles))] {
		if r.Intn(2) == 0 {
			c.Yes = c.Yes.With(roles[i])
		} else {
			c.No = c.No.With(roles[i])
		}
	}
	return c
}

// randomList returns random cubes over some roles.
func randomList(r *rand.Rand, roles []int, n int) []C {
	var l []C
	for range n {
		l = append(l, randomCube(r, roles, []int{1, 2, 2, 3, 3, 4, 8}[r.Intn(7)]))
	}
	return l
}

// emptyCube returns a cube that no set satisfies, whatever roles it mentions.
func emptyCube(r *rand.Rand) C {
	i := []int{0, 1, 63, 64, 4095}[r.Intn(5)]
	return C{Yes: bits.Of(i, r.Intn(4096)), No: bits.Below(r.Intn(100)).With(i)}
}

// withEmpty returns a list with empty cubes among the others.
func withEmpty(r *rand.Rand, l []C) []C {
	l = slices.Clone(l)
	for range 1 + r.Intn(4) {
		l = slices.Insert(l, r.Intn(len(l)+1), emptyCube(r))
	}
	return l
}

// present returns a cube with a role in Yes, and not in No.
func present(r int, c C) C {
	return C{Yes: c.Yes.With(r), No: c.No.Without(r)}
}

// satisfied is the test whether a set satisfies a list.
func satisfied(l []C) func(bits.Set) bool {
	return func(s bits.Set) bool { return cube.Some(l, s) }
}

// many returns a list of n times the same cube.
func many(n int, c C) []C {
	return slices.Repeat([]C{c}, n)
}

// listError is the error of a list, by definition.
func listError(l []C) api.Errno {
	set := map[int]bool{}
	bad := false
	for _, c := range l {
		if cube.Empty(c) {
			continue
		}
		for _, i := range append(c.Yes.List(), c.No.List()...) {
			set[i] = true
			bad = bad || i < 1 || i > 63
		}
	}
	switch {
	case bad:
		return api.ErrArg
	case len(set) > 8:
		return api.ErrLimit
	}
	return api.OK
}

// P19.2: lists whose prime implicants can be told by hand.
func TestPrimesExamples(t *testing.T) {
	for _, x := range []struct{ l, want []string }{
		// The examples of the chapter.
		{[]string{"1 2", "1 !2"}, []string{"1"}}, {[]string{"1 2", "!1 3"}, []string{"1 2", "2 3", "!1 3"}}, {[]string{"1", "!1"}, []string{"full"}}, {nil, nil},
		{[]string{"full"}, []string{"full"}}, {[]string{"full", "1"}, []string{"full"}}, {[]string{"1", "1"}, []string{"1"}}, {[]string{"2", "1"}, []string{"1", "2"}},
		{[]string{"1 !1"}, nil}, {[]string{"1 !1", "2 !2"}, nil}, {[]string{"1 !1", "2"}, []string{"2"}}, {[]string{"0 !0", "64 !64 70", "63"}, []string{"63"}},
		{[]string{"1", "!1 2"}, []string{"1", "2"}}, {[]string{"1 2 3", "1 2 !3", "1 !2"}, []string{"1"}}, {[]string{"1 2", "1 !2", "!1 2", "!1 !2"}, []string{"full"}},
		{[]string{"!1 !2", "!1 3", "1 2", "2 3", "1 !3", "!2 !3"}, []string{"!1 !2", "!2 !3", "1 !3", "1 2", "2 3", "!1 3"}},
		{[]string{"!1 !2", "2 3", "1 !3"}, []string{"!1 !2", "!2 !3", "1 !3", "1 2", "2 3", "!1 3"}},
		{[]string{"1 2 3 4 5 6 7 8"}, []string{"1 2 3 4 5 6 7 8"}}, {[]string{"!56 !57 !58 !59 !60 !61 !62 !63"}, []string{"!56 !57 !58 !59 !60 !61 !62 !63"}},
		{[]string{"1", "2", "3", "4", "5", "6", "7", "!8"}, []string{"!8", "1", "2", "3", "4", "5", "6", "7"}},
	} {
		got, e := normal.Primes(parse(t, x.l...))
		wantCubes(t, x.l, got, e, parse(t, x.want...), api.OK)
	}
}

// P19.2: random lists, with empty cubes and without them.
func TestPrimesRandom(t *testing.T) {
	r := rand.New(rand.NewSource(1902))
	lengths := map[int]int{}
	for i := range 3000 {
		n := 1 + r.Intn(4)
		if i%100 == 0 {
			n = 5 + r.Intn(4)
		}
		roles := pick(r, n)
		l := randomList(r, roles, r.Intn(2*n+1))
		want := primes(cube.Mentioned(l).List(), satisfied(l))
		got, e := normal.Primes(l)
		wantCubes(t, texts(l), got, e, want, api.OK)
		lengths[len(got)]++
		more := withEmpty(r, l)
		before := slices.Clone(more)
		got, e = normal.Primes(more)
		wantCubes(t, texts(more), got, e, want, api.OK)
		clear(got)
		if !slices.EqualFunc(more, before, cube.Equal) {
			t.Fatalf("%q has been changed, or shares memory with the result", texts(before))
		}
	}
	for n := range 5 {
		if lengths[n] < 50 {
			t.Errorf("only %d lists have %d prime implicants", lengths[n], n)
		}
	}
}

// P19.2: long lists.
func TestPrimesLong(t *testing.T) {
	r := rand.New(rand.NewSource(1922))
	roles := []int{1, 63, 3, 4, 5, 6, 7, 8}
	l := many(100000, C{Yes: bits.Of(1, 63)})
	got, e := normal.Primes(append(l, many(1000, emptyCube(r))...))
	wantCubes(t, "one cube many times", got, e, parse(t, "1 63"), api.OK)
	l = nil
	for range 20000 {
		l = append(l, present(1, randomCube(r, roles, 7+r.Intn(2))))
	}
	got, e = normal.Primes(l)
	wantCubes(t, "all cubes with a role", got, e, parse(t, "1"), api.OK)
}

// faultyLists are lists that are refused, or nearly so.
func faultyLists(r *rand.Rand) [][]C {
	out := [][]C{
		{{Yes: bits.Of(0)}}, {{No: bits.Of(0)}}, {{Yes: bits.Of(64)}}, {{No: bits.Of(64)}}, {{Yes: bits.Of(4095)}}, {{Yes: bits.Of(1)}, {No: bits.Of(1, 64)}}, {{}, {Yes: bits.Of(0)}},
		{{Yes: bits.Below(9).Without(0)}}, {{Yes: bits.Below(10).Without(0)}}, {{Yes: bits.Below(10)}}, {{No: bits.Below(10).Without(0)}}, {{}, {No: bits.Below(10).Without(0)}},
		{{Yes: bits.Below(9).Without(0)}, {No: bits.Of(9)}}, {{Yes: bits.Below(9).Without(0)}, {No: bits.Of(9)}, {Yes: bits.Of(64)}}, {{Yes: bits.Below(9).Without(0)}, {No: bits.Of(9), Yes: bits.Of(9)}},
		{{Yes: bits.Of(0), No: bits.Of(0)}}, {{Yes: bits.Below(64), No: bits.Of(5)}, {Yes: bits.Of(8)}}, {{Yes: bits.Below(4096), No: bits.Below(4096)}}, {{Yes: bits.Below(64).Without(0)}},
		// A cube that plays no part, as it is within another one, mentions its roles all the same.
		{{Yes: bits.Of(1)}, {Yes: bits.Of(1, 64)}}, {{Yes: bits.Of(1)}, {Yes: bits.Below(10).Without(0)}}, {{Yes: bits.Of(1)}, {No: bits.Of(1)}, {Yes: bits.Below(10).Without(0)}},
	}
	for range 300 {
		l := randomList(r, []int{1, 2, 3, 61, 62, 63}, r.Intn(5))
		for range r.Intn(4) {
			l = append(l, C{Yes: bits.Of(r.Intn(8), r.Intn(64))}, C{No: bits.Of(1, 1+r.Intn(64))})
		}
		out = append(out, withEmpty(r, l))
	}
	return out
}

// P19.2, P19.5: the errors of lists of cubes.
func TestListErrors(t *testing.T) {
	r := rand.New(rand.NewSource(1925))
	seen := map[api.Errno]int{}
	for _, l := range faultyLists(r) {
		want := listError(l)
		seen[want]++
		if got, e := normal.Primes(l); e != want || e != api.OK && len(got) > 0 {
			t.Errorf("Primes(%q): %q, error %d, not %d", texts(l), texts(got), e, want)
		}
		if f, e := normal.Back(l); e != want && want != api.OK || e != api.OK && !formula.Equal(f, F{}) {
			t.Errorf("Back(%q): %v, error %d, not %d", texts(l), f, e, want)
		}
	}
	for _, e := range []api.Errno{api.OK, api.ErrArg, api.ErrLimit} {
		if seen[e] < 30 {
			t.Errorf("error %d has come only %d times", e, seen[e])
		}
	}
}

// literals counts the literals of the cubes that are not empty.
func literals(l []C) int {
	n := 0
	for _, c := range l {
		if !cube.Empty(c) {
			n += c.Yes.Len() + c.No.Len()
		}
	}
	return n
}

// wantBack checks that Back succeeds, as it must up to 40 literals, and what its formula says.
func wantBack(t *testing.T, l []C) {
	t.Helper()
	f, e := normal.Back(l)
	if e == api.ErrLimit && literals(l) > 40 && formula.Equal(f, F{}) {
		return
	}
	if e != api.OK || formula.Check(f, syntax.Static) != api.OK {
		t.Fatalf("Back(%q): error %d; Check of %v: %d", texts(l), e, f, formula.Check(f, syntax.Static))
	}
	roles := formula.Mentioned(f)
	for _, c := range l {
		if !cube.Empty(c) {
			roles = roles.Or(c.Yes).Or(c.No)
		}
	}
	for _, s := range subsets(roles.List()) {
		if violates(f)(s) != cube.Some(l, s) {
			t.Fatalf("Back(%q) is %v, which %s violates: %v", texts(l), f, s.Text(), violates(f)(s))
		}
	}
}

// P19.5: lists of any length, and those that just have as many literals as Back must accept.
func TestBack(t *testing.T) {
	r := rand.New(rand.NewSource(1905))
	exact := 0
	for range 1500 {
		roles := pick(r, 1+r.Intn(8))
		l := randomList(r, roles, r.Intn(14))
		if r.Intn(2) == 0 {
			for n := literals(l); n < 40; n = literals(l) {
				l = append(l, randomCube(r, roles, min(40-n, 1+r.Intn(3))))
			}
		}
		if literals(l) == 40 {
			exact++
		}
		wantBack(t, l)
		wantBack(t, withEmpty(r, l))
	}
	if exact < 300 {
		t.Errorf("only %d lists have 40 literals", exact)
	}
}

// P19.5: lists of special shapes.
func TestBackEdges(t *testing.T) {
	var singles, pairs, opposites []C
	for i := range 20 {
		singles = append(singles, C{Yes: bits.Of(1 + i%8)}, C{No: bits.Of(1 + i%7)})
		pairs = append(pairs, C{Yes: bits.Of(1 + i%8), No: bits.Of(1 + (i+1+i/8)%8)})
	}
	for i := 1; i < 8; i++ {
		for j := 1; j < i; j++ {
			opposites = append(opposites, C{Yes: bits.Of(i, j)})
		}
	}
	eight := bits.Below(9).Without(0)
	for _, l := range [][]C{
		nil, {}, {{}}, many(1000, C{}), many(1000, C{Yes: bits.Of(1), No: bits.Of(1)}), {{Yes: bits.Of(0, 1), No: bits.Of(0)}}, {{Yes: bits.Of(63)}}, {{No: bits.Of(63)}},
		many(40, C{Yes: bits.Of(1)}), many(20, C{Yes: bits.Of(1), No: bits.Of(2)}), many(5, C{Yes: eight}), many(5, C{No: eight}), {{Yes: bits.Of(1)}, {No: bits.Of(1)}},
		singles, pairs, opposites[:20], append(many(500, C{}), singles...), append([]C{{Yes: eight}}, pairs[:16]...), append([]C{{No: eight}}, opposites[:16]...),
	} {
		if n := literals(l); n > 40 {
			t.Fatalf("a list has %d literals", n)
		}
		wantBack(t, l)
	}
	// More literals: an error is permitted, but a wrong formula is not.
	for _, l := range [][]C{opposites, many(3000, C{Yes: eight}), many(100000, C{Yes: bits.Of(1)}), append(slices.Clone(opposites), singles...)} {
		wantBack(t, l)
	}
	for n := range 9 {
		l, e := normal.Violations(op(syntax.Eq, count(1, 2, 3, 4, 5, 6, 7, 8), number(n)))
		if e != api.OK {
			t.Fatal(e)
		}
		wantBack(t, l)
	}
}

// P19.5: the normal form of a formula from Back is that of the list.
func TestBackAndForth(t *testing.T) {
	r := rand.New(rand.NewSource(1955))
	for range 500 {
		l := randomList(r, pick(r, 1+r.Intn(8)), r.Intn(6))
		want, e := normal.Primes(l)
		f, d := normal.Back(l)
		if e != api.OK || d != api.OK && literals(l) <= 40 {
			t.Fatalf("%q: errors %d, %d", texts(l), e, d)
		}
		if d != api.OK {
			continue
		}
		got, e := normal.Violations(f)
		wantCubes(t, texts(l), got, e, want, api.OK)
		// Nobody changes the next result by changing this one.
		spoil(f)
		wantBack(t, l)
	}
}

// spoil changes all lists of a formula.
func spoil(f F) {
	for _, x := range f.Args {
		spoil(x)
	}
	for i := range f.Roles {
		f.Roles[i] = math.MinInt
	}
	clear(f.Args)
}

// P19.6: whatever mentions an absent role, and is not empty, is not monotone.
func TestMonotone(t *testing.T) {
	for _, x := range []struct {
		l    []C
		want bool
	}{
		{nil, true}, {[]C{}, true}, {[]C{{}}, true}, {[]C{{Yes: bits.Of(1)}}, true}, {[]C{{No: bits.Of(1)}}, false}, {[]C{{Yes: bits.Of(1)}, {Yes: bits.Of(2), No: bits.Of(1)}}, false},
		{[]C{{Yes: bits.Of(1), No: bits.Of(1)}}, true}, {[]C{{Yes: bits.Of(1), No: bits.Of(1, 2)}}, true}, {[]C{{Yes: bits.Of(1), No: bits.Of(1)}, {No: bits.Of(2)}}, false},
		{[]C{{Yes: bits.Of(0, 64, 4095)}}, true}, {[]C{{No: bits.Of(0)}}, false}, {[]C{{No: bits.Of(4095)}}, false}, {[]C{{Yes: bits.Below(4096)}, {Yes: bits.Below(64)}}, true},
		// It is a matter of the list, not of what satisfies it.
		{[]C{{No: bits.Of(1)}, {Yes: bits.Of(1)}}, false}, {[]C{{}, {No: bits.Of(1)}}, false},
	} {
		if normal.Monotone(x.l) != x.want {
			t.Errorf("Monotone(%q) is not %v", texts(x.l), x.want)
		}
	}
}

// P19.6: a normal form is monotone exactly if what contains a violating set violates, too.
func TestMonotoneNormalForms(t *testing.T) {
	r := rand.New(rand.NewSource(1906))
	monotone := 0
	for range 3000 {
		f := random(r, pick(r, 1+r.Intn(4)), 1+r.Intn(5))
		l, _ := normal.Violations(f)
		roles := formula.Mentioned(f)
		want := true
		for _, s := range subsets(roles.List()) {
			for i := range roles.All() {
				want = want && (!violates(f)(s) || violates(f)(s.With(i)))
			}
		}
		if normal.Monotone(l) != want {
			t.Fatalf("%v: Monotone(%q) is not %v", f, texts(l), want)
		}
		if want && len(l) > 0 && !cube.Equal(l[0], C{}) {
			monotone++
		}
	}
	if monotone < 100 || monotone > 2000 {
		t.Errorf("%d formulas are monotone", monotone)
	}
}
