package order_test

import (
	"math/bits"
	"slices"
	"testing"

	"arbac/api"
	"arbac/order"
)

// P6.5
func TestSorted(t *testing.T) {
	for _, c := range samples() {
		m, _ := modelOf(c.n, c.pairs)
		var want []int
		for range c.n {
			for x := range c.n {
				if !slices.Contains(want, x) && m.allAboveIn(x, want) {
					want = append(want, x)
					break
				}
			}
		}
		if got := of(t, c.n, c.pairs...).Sorted(); !slices.Equal(got, want) {
			t.Errorf("%v: Sorted %v, not %v", c.pairs, got, want)
		}
	}
	if got := of(t, 3, [2]int{2, 0}).Sorted(); !slices.Equal(got, []int{1, 2, 0}) {
		t.Errorf("Sorted: %v", got)
	}
	// 0 gets possible only behind 2, and then comes before 3, which was possible from the first
	if got := of(t, 5, [2]int{2, 0}, [2]int{1, 0}).Sorted(); !slices.Equal(got, []int{1, 2, 0, 3, 4}) {
		t.Errorf("Sorted: %v", got)
	}
}

// allAboveIn reports whether a list has all elements above x.
func (m *model) allAboveIn(x int, l []int) bool {
	for y := range m.n {
		if m.above[y][x] && !slices.Contains(l, y) {
			return false
		}
	}
	return true
}

// path returns the shortest path from a to b, and the lexicographically least of those.
func (m *model) path(a, b int) []int {
	if a == b {
		return []int{a}
	}
	var best []int
	for _, p := range m.pairs {
		if p[0] != a || p[1] != b && !m.above[p[1]][b] {
			continue
		}
		l := append([]int{a}, m.path(p[1], b)...)
		if best == nil || len(l) < len(best) || len(l) == len(best) && slices.Compare(l, best) < 0 {
			best = l
		}
	}
	return best
}

// P6.6
func TestPath(t *testing.T) {
	for _, c := range samples() {
		if c.n > 12 {
			continue
		}
		m, _ := modelOf(c.n, c.pairs)
		o := of(t, c.n, c.pairs...)
		for a := range c.n {
			for b := range c.n {
				want := m.path(a, b)
				if got, ok := o.Path(a, b); !slices.Equal(got, want) || ok != (want != nil) {
					t.Errorf("%v: Path(%d, %d): %v, %v, not %v", m.pairs, a, b, got, ok, want)
				}
			}
		}
		for _, x := range append(slices.Clone(outside), c.n) {
			for _, p := range [][2]int{{x, 0}, {0, x}, {x, x}} {
				if l, ok := o.Path(p[0], p[1]); l != nil || ok {
					t.Errorf("Path(%v): %v, %v", p, l, ok)
				}
			}
		}
	}
}

// P6.4, P6.6, P6.7: the examples of the chapter.
func TestExample(t *testing.T) {
	o := of(t, 4, [2]int{0, 1}, [2]int{1, 3}, [2]int{0, 2}, [2]int{2, 3}, [2]int{0, 3})
	if s := o.Above(3).Text(); s != "{0 1 2}" {
		t.Errorf("Above(3): %s", s)
	}
	r := o.Reduced()
	if !slices.Equal(r.Pairs(), [][2]int{{0, 1}, {0, 2}, {1, 3}, {2, 3}}) {
		t.Errorf("Reduced: %v", r.Pairs())
	}
	short, _ := o.Path(0, 3)
	long, _ := r.Path(0, 3)
	if !slices.Equal(short, []int{0, 3}) || !slices.Equal(long, []int{0, 1, 3}) {
		t.Errorf("Path: %v, %v", short, long)
	}
	if o.Height() != 3 || r.Height() != 3 {
		t.Errorf("Height: %d, %d", o.Height(), r.Height())
	}
	// the path whose second element is less leads over a greater third one
	o = of(t, 6, [2]int{0, 1}, [2]int{0, 2}, [2]int{1, 4}, [2]int{2, 3}, [2]int{3, 5}, [2]int{4, 5})
	if l, _ := o.Path(0, 5); !slices.Equal(l, []int{0, 1, 4, 5}) {
		t.Errorf("Path: %v", l)
	}
}

// P6.7
func TestTopsBottomsHeight(t *testing.T) {
	for _, c := range samples() {
		m, _ := modelOf(c.n, c.pairs)
		o := of(t, c.n, c.pairs...)
		var tops, bottoms []int
		for x := range c.n {
			if m.allAboveIn(x, nil) {
				tops = append(tops, x)
			}
			if !slices.Contains(m.above[x], true) {
				bottoms = append(bottoms, x)
			}
		}
		if !slices.Equal(o.Tops(), tops) || !slices.Equal(o.Bottoms(), bottoms) {
			t.Errorf("%v: Tops %v, Bottoms %v, not %v, %v", m.pairs, o.Tops(), o.Bottoms(), tops, bottoms)
		}
		if c.n <= 12 && o.Height() != m.height() {
			t.Errorf("%v: Height %d, not %d", m.pairs, o.Height(), m.height())
		}
	}
}

// height tries all sets of elements.
func (m *model) height() int {
	most := 0
	for s := range 1 << m.n {
		if m.chain(s) {
			most = max(most, bits.OnesCount(uint(s)))
		}
	}
	return most
}

// chain reports whether any two elements of s are comparable.
func (m *model) chain(s int) bool {
	for x := range m.n {
		for y := range x {
			if s>>x&1 == 1 && s>>y&1 == 1 && !m.above[x][y] && !m.above[y][x] {
				return false
			}
		}
	}
	return true
}

// P6.7
func TestEqual(t *testing.T) {
	l := []*order.Order{
		nil, of(t, 0), of(t, 1), of(t, 3), of(t, 4), of(t, 3, [2]int{0, 1}), of(t, 4, [2]int{0, 1}), of(t, 3, [2]int{1, 0}),
		of(t, 3, [2]int{0, 1}, [2]int{1, 2}), of(t, 3, [2]int{0, 1}, [2]int{1, 2}, [2]int{0, 2}),
	}
	for i, o := range l {
		for j, p := range l {
			if o.Equal(p) != (i == j) {
				t.Errorf("Equal of orders %d and %d is %v", i, j, o.Equal(p))
			}
		}
	}
	a := of(t, 3, [2]int{1, 2}, [2]int{0, 1}, [2]int{1, 2})
	if !a.Equal(l[8]) || !l[8].Equal(a) || !a.Equal(l[9].Reduced()) || !a.Closed().Equal(l[9]) {
		t.Error("Equal of orders that are given by the same pairs in another way")
	}
}

// The sentence on nil orders at the end of the chapter.
func TestNil(t *testing.T) {
	var o *order.Order
	if r, e := o.With(0, 1); r != nil || e != api.ErrArg {
		t.Errorf("With: %v", e)
	}
	if r, e := o.Without(0, 1); r != nil || e != api.ErrArg {
		t.Errorf("Without: %v", e)
	}
	if o.Len() != 0 || o.Pairs() != nil || !o.Above(0).Empty() || !o.Below(0).Empty() || o.Less(0, 0) || o.Reduced() != nil || o.Closed() != nil ||
		o.Sorted() != nil || o.Tops() != nil || o.Bottoms() != nil || o.Height() != 0 {
		t.Error("something of nothing")
	}
	if l, ok := o.Path(0, 0); l != nil || ok {
		t.Errorf("Path: %v, %v", l, ok)
	}
}
