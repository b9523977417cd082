package bits_test

import (
	"math"
	"math/rand"
	"slices"
	"testing"

	"arbac/bits"
)

// edges are numbers at the borders of words and of the members.
var edges = []int{math.MinInt, -4096, -64, -1, 0, 1, 62, 63, 64, 65, 127, 128, 191, 192, 4031, 4032, 4094, 4095, 4096, 4159, 4160, 1 << 32, math.MaxInt}

// members returns the numbers of a list that are members of a set, ascending and each once.
func members(l []int) []int {
	var out []int
	for _, i := range l {
		if i >= 0 && i <= 4095 {
			out = append(out, i)
		}
	}
	slices.Sort(out)
	return slices.Compact(out)
}

// lists returns lists of many shapes: empty, single, within one word, sparse and dense ones.
func lists() [][]int {
	out := [][]int{nil, edges, {64, 3, 0, 63, 3, -1, 4096}}
	for _, e := range edges {
		out = append(out, []int{e}, []int{5, e}, []int{e, 130, e})
	}
	r := rand.New(rand.NewSource(1))
	for _, most := range []int{8, 64, 70, 200, 4096, 5000} {
		for _, n := range []int{1, 3, 40, 300} {
			var l []int
			for range n {
				l = append(l, r.Intn(most))
			}
			out = append(out, l)
		}
	}
	return out
}

// check checks that a set has just some members, by every function that tells of them.
func check(t *testing.T, what string, s bits.Set, want []int) {
	t.Helper()
	if !slices.Equal(s.List(), want) {
		t.Errorf("%s: members %v, not %v", what, s.List(), want)
		return
	}
	if s.Len() != len(want) || s.Empty() != (len(want) == 0) || !s.Equal(bits.Of(want...)) || s.Compare(bits.Of(want...)) != 0 {
		t.Errorf("%s: Len %d, Empty %v, or not equal to the set of %v", what, s.Len(), s.Empty(), want)
	}
	least, greatest, some := 0, 0, len(want) > 0
	if some {
		least, greatest = want[0], want[len(want)-1]
	}
	if x, ok := s.Least(); x != least || ok != some {
		t.Errorf("%s: Least %d %v", what, x, ok)
	}
	if x, ok := s.Greatest(); x != greatest || ok != some {
		t.Errorf("%s: Greatest %d %v", what, x, ok)
	}
	for _, i := range append(slices.Clone(edges), want...) {
		if s.Has(i) != slices.Contains(want, i) {
			t.Errorf("%s: Has(%d) is %v", what, i, s.Has(i))
		}
	}
}

// P1.1
func TestOf(t *testing.T) {
	check(t, "Of()", bits.Of(), nil)
	check(t, "zero value", bits.Set{}, nil)
	check(t, "Of", bits.Of(5, 1, 5, -3, 5000), []int{1, 5})
	for _, l := range lists() {
		before := slices.Clone(l)
		check(t, "Of", bits.Of(l...), members(l))
		if !slices.Equal(l, before) {
			t.Errorf("Of changed its argument: %v", l)
		}
	}
}

// P1.1
func TestBelow(t *testing.T) {
	for _, n := range append(slices.Clone(edges), 2, 3, 5000) {
		var want []int
		for i := 0; i < n && i < 4096; i++ {
			want = append(want, i)
		}
		check(t, "Below", bits.Below(n), want)
	}
}

// P1.2
func TestWithAndWithout(t *testing.T) {
	for _, l := range lists() {
		s, old := bits.Of(l...), members(l)
		for _, i := range append(slices.Clone(edges), 3, 130) {
			check(t, "With", s.With(i), members(append(slices.Clone(l), i)))
			check(t, "Without", s.Without(i), slices.DeleteFunc(slices.Clone(old), func(x int) bool { return x == i }))
			check(t, "With, Without", s.With(i).Without(i), s.Without(i).List())
		}
		check(t, "unchanged", s, old)
	}
}

// P1.2, and the functions of P1.3 about two sets
func TestTwoSets(t *testing.T) {
	all := lists()
	for _, a := range all {
		for _, b := range all {
			x, y := members(a), members(b)
			var both, only []int
			for _, i := range x {
				if slices.Contains(y, i) {
					both = append(both, i)
				} else {
					only = append(only, i)
				}
			}
			s, o := bits.Of(a...), bits.Of(b...)
			if !slices.Equal(s.Or(o).List(), members(append(slices.Clone(a), b...))) || !slices.Equal(s.And(o).List(), both) || !slices.Equal(s.Minus(o).List(), only) {
				t.Fatalf("%v, %v: Or %s, And %s, Minus %s", x, y, s.Or(o).Text(), s.And(o).Text(), s.Minus(o).Text())
			}
			if s.Equal(o) != slices.Equal(x, y) || s.Within(o) != (len(only) == 0) || s.Meets(o) != (len(both) > 0) {
				t.Fatalf("%v, %v: Equal %v, Within %v, Meets %v", x, y, s.Equal(o), s.Within(o), s.Meets(o))
			}
			if s.Compare(o) != slices.Compare(x, y) {
				t.Fatalf("%v, %v: Compare %d", x, y, s.Compare(o))
			}
			if !slices.Equal(s.List(), x) || !slices.Equal(o.List(), y) {
				t.Fatalf("%v, %v: changed to %s, %s", x, y, s.Text(), o.Text())
			}
		}
	}
}

// P1.2: results that have lost their greatest members are like new sets.
func TestShrunkenSets(t *testing.T) {
	s := bits.Of(1, 70, 200, 4095)
	check(t, "And", s.And(bits.Of(1, 71, 201, 4094)), []int{1})
	check(t, "Minus", s.Minus(bits.Of(200, 4095)), []int{1, 70})
	check(t, "Minus of itself", s.Minus(s), nil)
	check(t, "Without", s.Without(4095), []int{1, 70, 200})
	check(t, "Without all", bits.Of(64).Without(64), nil)
}

// P1.2: the laws of a Boolean algebra of sets.
func TestLaws(t *testing.T) {
	all := bits.Below(4096)
	not := func(s bits.Set) bits.Set { return all.Minus(s) }
	l := lists()
	for k := range l {
		a, b, c := bits.Of(l[k]...), bits.Of(l[(k+7)%len(l)]...), bits.Of(l[(k+11)%len(l)]...)
		for name, pair := range map[string][2]bits.Set{
			"Or commutes":       {a.Or(b), b.Or(a)},
			"And commutes":      {a.And(b), b.And(a)},
			"Or associates":     {a.Or(b).Or(c), a.Or(b.Or(c))},
			"And associates":    {a.And(b).And(c), a.And(b.And(c))},
			"And distributes":   {a.And(b.Or(c)), a.And(b).Or(a.And(c))},
			"Or distributes":    {a.Or(b.And(c)), a.Or(b).And(a.Or(c))},
			"absorption":        {a.Or(a.And(b)), a},
			"Or with nothing":   {a.Or(bits.Set{}), a},
			"And with all":      {a.And(all), a},
			"Or complement":     {a.Or(not(a)), all},
			"And complement":    {a.And(not(a)), bits.Set{}},
			"double complement": {not(not(a)), a},
			"De Morgan":         {not(a.Or(b)), not(a).And(not(b))},
			"Minus":             {a.Minus(b), a.And(not(b))},
		} {
			if !pair[0].Equal(pair[1]) {
				t.Errorf("%s: %s, %s", name, pair[0].Text(), pair[1].Text())
			}
		}
	}
}

// P1.4
func TestList(t *testing.T) {
	s := bits.Of(9, 70, 2)
	l := s.List()
	l[0] = 99
	check(t, "List is no part of the set", s, []int{2, 9, 70})
}

// P1.4
func TestAll(t *testing.T) {
	for _, l := range lists() {
		want := members(l)
		all := bits.Of(l...).All()
		for n := range len(want) + 1 {
			var got []int
			for i := range all {
				if len(got) == n {
					break
				}
				got = append(got, i)
			}
			if !slices.Equal(got, want[:n]) {
				t.Fatalf("All, left after %d: %v", n, got)
			}
		}
		if got := slices.Collect(all); !slices.Equal(got, want) {
			t.Errorf("All, once more: %v, not %v", got, want)
		}
	}
	n := 0
	all := bits.Of(0, 63, 64, 4095).All()
	for range all {
		for range all {
			n++
		}
	}
	if n != 16 {
		t.Errorf("All within itself: %d", n)
	}
	for i := range (bits.Set{}).All() {
		t.Errorf("All of the empty set: %d", i)
	}
}

// P1.4
func TestCompare(t *testing.T) {
	ascending := []bits.Set{{}, bits.Of(0), bits.Of(0, 1), bits.Of(0, 1, 64), bits.Of(0, 64), bits.Of(0, 4095), bits.Of(1), bits.Of(1, 9), bits.Of(2), bits.Of(64), bits.Of(64, 65), bits.Of(65), bits.Of(4095)}
	for i, a := range ascending {
		for j, b := range ascending {
			want := 0
			if i < j {
				want = -1
			} else if i > j {
				want = 1
			}
			if got := a.Compare(b); got != want {
				t.Errorf("Compare(%s, %s): %d", a.Text(), b.Text(), got)
			}
		}
	}
}
