package order_test

import (
	"math"
	"math/rand"
	"slices"
	"testing"

	"arbac/api"
	"arbac/bits"
	"arbac/order"
)

// outside are numbers that are no elements of any order.
var outside = []int{math.MinInt, -1, 256, 257, 4096, math.MaxInt}

// of returns the order that pairs give, which must have no cycle.
func of(t *testing.T, n int, pairs ...[2]int) *order.Order {
	t.Helper()
	o, e := order.New(n, pairs)
	if e != api.OK || o == nil {
		t.Fatalf("New(%d, %v): %v", n, pairs, e)
	}
	return o
}

// model is an order of n elements, with the given pairs each once and ascending,
// and above[x][y] if x is above y.
type model struct {
	n     int
	pairs [][2]int
	above [][]bool
}

// modelOf follows the paths of pairs as the definition says, and reports whether there is no cycle.
func modelOf(n int, pairs [][2]int) (*model, bool) {
	m := &model{n: n, above: make([][]bool, n)}
	for x := range n {
		m.above[x] = make([]bool, n)
	}
	for x := range n {
		for y := range n {
			if slices.Contains(pairs, [2]int{x, y}) {
				m.pairs = append(m.pairs, [2]int{x, y})
				m.above[x][y] = true
			}
		}
	}
	for z := range n {
		for x := range n {
			for y := range n {
				m.above[x][y] = m.above[x][y] || m.above[x][z] && m.above[z][y]
			}
		}
	}
	for x := range n {
		if m.above[x][x] {
			return nil, false
		}
	}
	return m, true
}

// covering reports whether (x, y) is a covering pair.
func (m *model) covering(x, y int) bool {
	for z := range m.n {
		if m.above[x][z] && m.above[z][y] {
			return false
		}
	}
	return m.above[x][y]
}

// check checks that an order has the relation of a model, and is given by some pairs.
func check(t *testing.T, what string, o *order.Order, m *model, pairs [][2]int) {
	t.Helper()
	if o.Len() != m.n || !slices.Equal(o.Pairs(), pairs) {
		t.Fatalf("%s: Len %d, Pairs %v, not %d, %v", what, o.Len(), o.Pairs(), m.n, pairs)
	}
	for x := range m.n {
		var above, below bits.Set
		for y := range m.n {
			if m.above[y][x] {
				above = above.With(y)
			}
			if m.above[x][y] {
				below = below.With(y)
			}
			if o.Less(x, y) != m.above[y][x] {
				t.Fatalf("%s: Less(%d, %d) is %v", what, x, y, o.Less(x, y))
			}
		}
		if !o.Above(x).Equal(above) || !o.Below(x).Equal(below) {
			t.Fatalf("%s: above and below %d: %s, %s, not %s, %s", what, x, o.Above(x).Text(), o.Below(x).Text(), above.Text(), below.Text())
		}
	}
	for _, x := range append(slices.Clone(outside), m.n, m.n+1) {
		if !o.Above(x).Empty() || !o.Below(x).Empty() || o.Less(x, 0) || o.Less(0, x) || o.Less(x, x) {
			t.Fatalf("%s: something about %d, which is no element", what, x)
		}
	}
}

// sample is an order for tests, as its pairs: not ascending, and some of them twice.
type sample struct {
	n     int
	pairs [][2]int
}

// samples returns orders of many shapes: empty ones, chains, crowns, random ones.
func samples() []sample {
	out := []sample{
		{0, nil}, {1, nil}, {5, nil},
		{4, [][2]int{{0, 1}, {1, 3}, {0, 2}, {2, 3}, {0, 3}}},
		{3, [][2]int{{2, 0}}}, {2, [][2]int{{1, 0}, {1, 0}}},
		{5, [][2]int{{4, 3}, {3, 2}, {2, 1}, {1, 0}, {4, 0}, {4, 3}}},
		{6, [][2]int{{0, 3}, {0, 4}, {1, 4}, {1, 5}, {2, 5}, {2, 3}}},
		{6, [][2]int{{5, 4}, {5, 3}, {4, 0}, {3, 1}, {0, 2}, {1, 2}}},
	}
	r := rand.New(rand.NewSource(6))
	for _, n := range []int{2, 3, 4, 5, 6, 8, 12, 70} {
		for _, m := range []int{n / 2, n, 2 * n, n * n / 2} {
			place := r.Perm(n)
			var pairs [][2]int
			for range m {
				x, y := r.Intn(n), r.Intn(n)
				if place[x] < place[y] {
					pairs = append(pairs, [2]int{x, y})
				}
			}
			out = append(out, sample{n, pairs})
		}
	}
	return out
}

// P6.1, P6.2
func TestNew(t *testing.T) {
	for _, c := range samples() {
		before := slices.Clone(c.pairs)
		o := of(t, c.n, c.pairs...)
		if !slices.Equal(c.pairs, before) {
			t.Errorf("New has changed its argument %v", before)
		}
		m, ok := modelOf(c.n, before)
		if !ok {
			t.Fatalf("a cycle in %v", before)
		}
		for i := range c.pairs {
			c.pairs[i] = [2]int{0, 0}
		}
		check(t, "New", o, m, m.pairs)
	}
}

// P6.1
func TestNewErrors(t *testing.T) {
	for _, c := range []struct {
		n     int
		pairs [][2]int
		want  api.Errno
	}{
		{-1, nil, api.ErrArg}, {257, nil, api.ErrArg}, {math.MinInt, nil, api.ErrArg}, {math.MaxInt, nil, api.ErrArg},
		{-1, [][2]int{{0, 0}}, api.ErrArg}, {257, [][2]int{{-1, 0}}, api.ErrArg},
		{0, [][2]int{{0, 0}}, api.ErrRange}, {2, [][2]int{{0, 2}}, api.ErrRange}, {2, [][2]int{{2, 0}}, api.ErrRange},
		{2, [][2]int{{-1, 0}}, api.ErrRange}, {2, [][2]int{{0, -1}}, api.ErrRange}, {2, [][2]int{{math.MinInt, math.MaxInt}}, api.ErrRange},
		{256, [][2]int{{0, 256}}, api.ErrRange}, {256, [][2]int{{4095, 0}}, api.ErrRange},
		{2, [][2]int{{0, 0}, {0, 2}}, api.ErrRange}, {3, [][2]int{{0, 1}, {1, 0}, {3, 0}}, api.ErrRange},
		{1, [][2]int{{0, 0}}, api.ErrCycle}, {2, [][2]int{{0, 1}, {1, 0}}, api.ErrCycle}, {2, [][2]int{{0, 1}, {1, 1}}, api.ErrCycle},
		{4, [][2]int{{3, 0}, {0, 1}, {1, 2}, {2, 0}}, api.ErrCycle}, {4, [][2]int{{0, 1}, {1, 2}, {2, 0}, {2, 3}}, api.ErrCycle},
		{256, [][2]int{{255, 0}, {0, 255}}, api.ErrCycle},
	} {
		if o, e := order.New(c.n, c.pairs); o != nil || e != c.want {
			t.Errorf("New(%d, %v): %v, not %v", c.n, c.pairs, e, c.want)
		}
	}
}

// P6.1: all sets of pairs of three elements, and random ones: ErrCycle exactly for a cycle.
func TestCycles(t *testing.T) {
	try := func(n int, pairs [][2]int) {
		m, ok := modelOf(n, pairs)
		o, e := order.New(n, pairs)
		if ok {
			if e != api.OK {
				t.Fatalf("New(%d, %v): %v", n, pairs, e)
			}
			check(t, "New", o, m, m.pairs)
		} else if e != api.ErrCycle || o != nil {
			t.Fatalf("New(%d, %v): %v, not ErrCycle", n, pairs, e)
		}
	}
	for s := range 1 << 9 {
		var pairs [][2]int
		for i := range 9 {
			if s>>i&1 == 1 {
				pairs = append(pairs, [2]int{i / 3, i % 3})
			}
		}
		try(3, pairs)
	}
	r := rand.New(rand.NewSource(7))
	for range 500 {
		n := 4 + r.Intn(5)
		var pairs [][2]int
		for range r.Intn(2 * n) {
			pairs = append(pairs, [2]int{r.Intn(n), r.Intn(n)})
		}
		try(n, pairs)
	}
}

// P6.1, P6.2: the greatest number of elements.
func TestGreatest(t *testing.T) {
	var chain, all [][2]int
	for x := range 255 {
		chain = append(chain, [2]int{255 - x, 254 - x})
		for y := x + 1; y < 256; y++ {
			all = append(all, [2]int{y, x})
		}
	}
	for _, pairs := range [][][2]int{chain, all, append(all, all...)} {
		o := of(t, 256, pairs...)
		if !o.Below(255).Equal(bits.Below(255)) || !o.Above(0).Equal(bits.Below(256).Without(0)) || !o.Less(0, 255) || o.Less(255, 0) {
			t.Error("above or below")
		}
		if o.Height() != 256 || o.Sorted()[0] != 255 || len(o.Reduced().Pairs()) != 255 || len(o.Closed().Pairs()) != 255*128 {
			t.Errorf("Height %d, or another order", o.Height())
		}
		if !slices.Equal(o.Tops(), []int{255}) || !slices.Equal(o.Bottoms(), []int{0}) {
			t.Errorf("Tops %v, Bottoms %v", o.Tops(), o.Bottoms())
		}
	}
}

// P6.2, Rules: a result is new memory.
func TestResultsAreNew(t *testing.T) {
	o := of(t, 3, [2]int{0, 1}, [2]int{1, 2})
	o.Pairs()[0] = [2]int{2, 0}
	o.Sorted()[0] = 2
	o.Tops()[0] = 1
	o.Bottoms()[0] = 1
	path, _ := o.Path(0, 2)
	path[0] = 2
	again, _ := o.Path(0, 2)
	if !slices.Equal(o.Pairs(), [][2]int{{0, 1}, {1, 2}}) || o.Sorted()[0] != 0 || o.Tops()[0] != 0 || o.Bottoms()[0] != 2 || again[0] != 0 {
		t.Error("writing to a result has changed the order")
	}
}

// P6.3
func TestWithWithout(t *testing.T) {
	for _, c := range samples() {
		if c.n > 12 {
			continue
		}
		m, _ := modelOf(c.n, c.pairs)
		o := of(t, c.n, c.pairs...)
		for a := range c.n {
			for b := range c.n {
				p := [2]int{a, b}
				given := slices.Contains(m.pairs, p)
				more, acyclic := modelOf(c.n, append(slices.Clone(m.pairs), p))
				with, e := o.With(a, b)
				switch {
				case given && (e != api.ErrExists || with != nil):
					t.Errorf("%v: With(%v): %v, not ErrExists", m.pairs, p, e)
				case !given && !acyclic && (e != api.ErrCycle || with != nil):
					t.Errorf("%v: With(%v): %v, not ErrCycle", m.pairs, p, e)
				case !given && acyclic && e != api.OK:
					t.Errorf("%v: With(%v): %v", m.pairs, p, e)
				case !given && acyclic:
					check(t, "With", with, more, more.pairs)
				}
				without, e := o.Without(a, b)
				if !given {
					if e != api.ErrNone || without != nil {
						t.Errorf("%v: Without(%v): %v, not ErrNone", m.pairs, p, e)
					}
					continue
				}
				less, _ := modelOf(c.n, slices.DeleteFunc(slices.Clone(m.pairs), func(q [2]int) bool { return q == p }))
				if e != api.OK {
					t.Errorf("%v: Without(%v): %v", m.pairs, p, e)
				} else {
					check(t, "Without", without, less, less.pairs)
				}
			}
		}
		check(t, "the order after With and Without", o, m, m.pairs)
	}
}

// P6.3
func TestWithWithoutErrors(t *testing.T) {
	o := of(t, 4, [2]int{0, 1}, [2]int{1, 3}, [2]int{0, 2}, [2]int{2, 3}, [2]int{0, 3})
	for _, x := range append(slices.Clone(outside), 4) {
		for _, p := range [][2]int{{x, 0}, {0, x}, {x, x}} {
			if r, e := o.With(p[0], p[1]); r != nil || e != api.ErrRange {
				t.Errorf("With(%v): %v, not ErrRange", p, e)
			}
			if r, e := o.Without(p[0], p[1]); r != nil || e != api.ErrNone {
				t.Errorf("Without(%v): %v, not ErrNone", p, e)
			}
		}
	}
	for _, c := range []struct {
		a, b int
		want api.Errno
	}{{3, 0, api.ErrCycle}, {2, 2, api.ErrCycle}, {3, 2, api.ErrCycle}, {0, 3, api.ErrExists}, {0, 1, api.ErrExists}} {
		if r, e := o.With(c.a, c.b); r != nil || e != c.want {
			t.Errorf("With(%d, %d): %v, not %v", c.a, c.b, e, c.want)
		}
	}
	empty := of(t, 0)
	if r, e := empty.With(0, 0); r != nil || e != api.ErrRange {
		t.Errorf("With of the empty order: %v", e)
	}
}

// P6.4
func TestReducedClosed(t *testing.T) {
	for _, c := range samples() {
		m, _ := modelOf(c.n, c.pairs)
		o := of(t, c.n, c.pairs...)
		var covering, all [][2]int
		for x := range c.n {
			for y := range c.n {
				if m.covering(x, y) {
					covering = append(covering, [2]int{x, y})
				}
				if m.above[x][y] {
					all = append(all, [2]int{x, y})
				}
			}
		}
		check(t, "Reduced", o.Reduced(), m, covering)
		check(t, "Closed", o.Closed(), m, all)
		check(t, "Reduced of Closed", o.Closed().Reduced(), m, covering)
		check(t, "Closed of Reduced", o.Reduced().Closed(), m, all)
		check(t, "the order itself", o, m, m.pairs)
	}
}
