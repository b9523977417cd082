package days_test

import (
	"math"
	"math/rand"
	"slices"
	"testing"

	"arbac/api"
	"arbac/days"
)

// model has true for each day of a set.
type model [api.MaxDay + 1]bool

// edges are numbers at the ends of the days.
var edges = []int{math.MinInt, -30001, -2, -1, 0, 1, 2, 14999, 15000, 29998, 29999, 30000, 30001, 30002, 1 << 40, math.MaxInt}

// of returns the set of some spans, which must be one.
func of(t *testing.T, l ...days.Span) days.Set {
	t.Helper()
	s, e := days.Of(l...)
	if e != api.OK {
		t.Fatalf("Of(%v): %v", l, e)
	}
	return s
}

// modelOf returns the days of spans.
func modelOf(l []days.Span) *model {
	m := new(model)
	for _, p := range l {
		for d := p.From; d <= p.To; d++ {
			m[d] = true
		}
	}
	return m
}

// spans returns the longest spans of a model.
func (m *model) spans() []days.Span {
	var l []days.Span
	for d, in := range m {
		switch {
		case in && (d == 0 || !m[d-1]):
			l = append(l, days.Span{From: d, To: d})
		case in:
			l[len(l)-1].To = d
		}
	}
	return l
}

// check checks that a set has the days of a model, by every function that tells of them.
func check(t *testing.T, what string, s days.Set, m *model) {
	t.Helper()
	n, next := 0, -1
	for d := api.MaxDay; d >= 0; d-- {
		if m[d] {
			n, next = n+1, d
		}
		if s.Has(d) != m[d] {
			t.Fatalf("%s: Has(%d) is %v", what, d, s.Has(d))
		}
		if x, ok := s.Next(d); ok != (next >= 0) || x != max(next, 0) {
			t.Fatalf("%s: Next(%d) is %d, %v, not %d", what, d, x, ok, next)
		}
	}
	if s.Len() != n || s.Empty() != (n == 0) {
		t.Errorf("%s: Len %d, Empty %v, not %d days", what, s.Len(), s.Empty(), n)
	}
	want := m.spans()
	if !slices.Equal(s.Spans(), want) {
		t.Errorf("%s: spans %v, not %v", what, s.Spans(), want)
	}
	if same := of(t, want...); !s.Equal(same) || !same.Equal(s) || !s.Within(same) || !same.Within(s) {
		t.Errorf("%s: not equal to the set of its spans", what)
	}
	for _, d := range edges {
		if d < 0 {
			if x, ok := s.Next(d); s.Has(d) || ok != (n > 0) || x != max(next, 0) {
				t.Errorf("%s: Has(%d) %v, Next %d %v", what, d, s.Has(d), x, ok)
			}
		}
		if d > api.MaxDay {
			if x, ok := s.Next(d); s.Has(d) || ok || x != 0 {
				t.Errorf("%s: Has(%d) %v, Next %d %v", what, d, s.Has(d), x, ok)
			}
		}
	}
}

// lists returns lists of spans: none, at the ends, overlapping, adjacent, unordered, random ones.
func lists() [][]days.Span {
	out := [][]days.Span{
		nil, {{0, 0}}, {{30000, 30000}}, {{0, 30000}}, {{0, 29999}}, {{1, 30000}}, {{0, 0}, {30000, 30000}},
		{{10, 10}, {3, 7}, {8, 8}, {20, 30000}},
		{{5, 9}, {5, 6}}, {{5, 6}, {5, 9}}, {{1, 100}, {20, 30}, {101, 101}, {103, 104}},
		{{20, 30}, {10, 19}, {0, 9}}, {{7, 7}, {7, 7}, {7, 7}}, {{15, 30000}, {0, 14}},
	}
	r := rand.New(rand.NewSource(5))
	for _, n := range []int{1, 2, 5, 20} {
		for _, most := range []int{10, 60, api.MaxDay} {
			var l []days.Span
			for range n {
				from := r.Intn(most + 1)
				l = append(l, days.Span{From: from, To: min(most, from+r.Intn(1+most/n))})
			}
			out = append(out, l)
		}
	}
	var odd []days.Span
	for d := 1; d <= api.MaxDay; d += 2 {
		odd = append(odd, days.Span{From: d, To: d})
	}
	return append(out, odd)
}

// P5.1, P5.3
func TestOf(t *testing.T) {
	check(t, "zero value", days.Set{}, new(model))
	check(t, "All", days.All(), modelOf([]days.Span{{0, 30000}}))
	for _, l := range lists() {
		before := slices.Clone(l)
		s := of(t, l...)
		if !slices.Equal(l, before) {
			t.Errorf("Of(%v) has changed its argument", before)
		}
		m := modelOf(before)
		for i := range l {
			l[i] = days.Span{From: 0, To: 30000}
		}
		check(t, "Of", s, m)
	}
}

// P5.1
func TestOfErrors(t *testing.T) {
	for _, c := range []struct {
		l    []days.Span
		want api.Errno
	}{
		{[]days.Span{{-1, 3}}, api.ErrRange},
		{[]days.Span{{0, 30001}}, api.ErrRange},
		{[]days.Span{{30001, 30002}}, api.ErrRange},
		{[]days.Span{{3, -1}}, api.ErrRange},
		{[]days.Span{{30001, 3}}, api.ErrRange},
		{[]days.Span{{math.MinInt, math.MaxInt}}, api.ErrRange},
		{[]days.Span{{4, 3}}, api.ErrArg},
		{[]days.Span{{30000, 0}}, api.ErrArg},
		{[]days.Span{{1, 2}, {4, 3}, {-1, 0}}, api.ErrArg},
		{[]days.Span{{1, 2}, {0, 30001}, {4, 3}}, api.ErrRange},
		{[]days.Span{{1, 2}, {3, 4}, {6, 5}}, api.ErrArg},
	} {
		if s, e := days.Of(c.l...); e != c.want || !s.Empty() {
			t.Errorf("Of(%v): %s, %v, not %v", c.l, s.Text(), e, c.want)
		}
	}
}

// P5.2
func TestOperations(t *testing.T) {
	for _, l := range lists() {
		a, m := of(t, l...), modelOf(l)
		not := new(model)
		for d := range not {
			not[d] = !m[d]
		}
		check(t, "Not", a.Not(), not)
		for _, k := range lists() {
			b, n := of(t, k...), modelOf(k)
			or, and, minus := new(model), new(model), new(model)
			within := true
			for d := range or {
				or[d], and[d], minus[d] = m[d] || n[d], m[d] && n[d], m[d] && !n[d]
				within = within && !minus[d]
			}
			for _, c := range []struct {
				what string
				s    days.Set
				m    *model
			}{{"Or", a.Or(b), or}, {"And", a.And(b), and}, {"Minus", a.Minus(b), minus}} {
				if !slices.Equal(c.s.Spans(), c.m.spans()) || !c.s.Equal(of(t, c.m.spans()...)) {
					t.Fatalf("%v %s %v: %v", l, c.what, k, c.s.Spans())
				}
			}
			if a.Equal(b) != (*m == *n) || a.Within(b) != within {
				t.Fatalf("%v, %v: Equal %v, Within %v", l, k, a.Equal(b), a.Within(b))
			}
		}
		check(t, "left operand", a, m)
	}
}

// P5.2: the laws of a Boolean algebra.
func TestAlgebra(t *testing.T) {
	var sets []days.Set
	for _, l := range lists()[:12] {
		sets = append(sets, of(t, l...))
	}
	none, all := days.Set{}, days.All()
	for _, a := range sets {
		if !a.Or(a.Not()).Equal(all) || !a.And(a.Not()).Equal(none) || !a.Not().Not().Equal(a) ||
			!a.Or(none).Equal(a) || !a.And(all).Equal(a) || !a.Minus(a).Equal(none) {
			t.Errorf("%s: complement or neutral elements", a.Text())
		}
		for _, b := range sets {
			if !a.Or(b).Equal(b.Or(a)) || !a.And(b).Equal(b.And(a)) || !a.Or(a.And(b)).Equal(a) || !a.And(a.Or(b)).Equal(a) ||
				!a.Or(b).Not().Equal(a.Not().And(b.Not())) || !a.Minus(b).Equal(a.And(b.Not())) {
				t.Errorf("%s, %s: commutative, absorption or De Morgan's laws", a.Text(), b.Text())
			}
			for _, c := range sets {
				if !a.And(b.Or(c)).Equal(a.And(b).Or(a.And(c))) || !a.Or(b.And(c)).Equal(a.Or(b).And(a.Or(c))) {
					t.Errorf("%s, %s, %s: distributive laws", a.Text(), b.Text(), c.Text())
				}
			}
		}
	}
}

// P5.3
func TestSpansNextExample(t *testing.T) {
	s := of(t, days.Span{From: 10, To: 10}, days.Span{From: 3, To: 7}, days.Span{From: 8, To: 8}, days.Span{From: 20, To: 30000})
	want := []days.Span{{3, 8}, {10, 10}, {20, 30000}}
	if !slices.Equal(s.Spans(), want) || s.Len() != 6+1+29981 {
		t.Errorf("Spans %v, Len %d", s.Spans(), s.Len())
	}
	for _, c := range [][2]int{{-5, 3}, {0, 3}, {3, 3}, {8, 8}, {9, 10}, {11, 20}, {30000, 30000}} {
		if d, ok := s.Next(c[0]); d != c[1] || !ok {
			t.Errorf("Next(%d): %d, %v", c[0], d, ok)
		}
	}
	if d, ok := s.Not().Next(20); d != 0 || ok {
		t.Errorf("Next behind the last day: %d, %v", d, ok)
	}
}

// P5.3, Rules: a result is new memory, and a set does not change.
func TestSpansAreNew(t *testing.T) {
	s := of(t, days.Span{From: 1, To: 2}, days.Span{From: 9, To: 9})
	all := days.All()
	s.Spans()[0] = days.Span{From: 0, To: 100}
	all.Spans()[0].To = 3
	if s.Text() != "1-2,9" || all.Text() != "all" || days.All().Len() != 30001 {
		t.Errorf("%s, %s", s.Text(), all.Text())
	}
}

// P5.4
func TestCompare(t *testing.T) {
	a, b, c := of(t, days.Span{From: 1, To: 5}), of(t, days.Span{From: 2, To: 5}), of(t, days.Span{From: 2, To: 3}, days.Span{From: 5, To: 5})
	if !c.Within(b) || !b.Within(a) || !c.Within(a) || b.Within(c) || a.Within(b) || !a.Within(a) || a.Equal(b) || b.Equal(c) {
		t.Error("Within or Equal of nested sets")
	}
	none := days.Set{}
	if !none.Empty() || a.Empty() || !none.Within(none) || !none.Within(a) || a.Within(none) || none.Equal(a) || a.Equal(none) || !none.Equal(a.Minus(a)) {
		t.Error("the empty set")
	}
	if !a.Within(days.All()) || days.All().Within(a) || !days.All().Equal(none.Not()) {
		t.Error("all days")
	}
}
