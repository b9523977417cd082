package matching_test

import (
	"math"
	"math/rand"
	"slices"
	"testing"

	"arbac/api"
	"arbac/bits"
	"arbac/matching"
)

// graph returns the graph with some neighbours of each left vertex.
func graph(l ...[]int) matching.Graph {
	g := make(matching.Graph, len(l))
	for i, neighbours := range l {
		g[i] = bits.Of(neighbours...)
	}
	return g
}

// random returns a graph with left vertices whose neighbours are some of the right ones,
// each of them with the probability share.
func random(r *rand.Rand, left int, right []int, share float64) matching.Graph {
	g := make(matching.Graph, left)
	for i := range g {
		for _, v := range right {
			if r.Float64() < share {
				g[i] = g[i].With(v)
			}
		}
	}
	return g
}

// text returns a graph as text.
func text(g matching.Graph) string {
	s := ""
	for _, neighbours := range g {
		s += neighbours.Text()
	}
	return s
}

// matched returns how many left vertices a matching matches.
func matched(m []int) int {
	n := 0
	for _, v := range m {
		if v != -1 {
			n++
		}
	}
	return n
}

// all returns all matchings of a graph, in lexicographic order.
func all(g matching.Graph) [][]int {
	out := [][]int{nil}
	for _, neighbours := range g {
		var longer [][]int
		for _, m := range out {
			longer = append(longer, append(slices.Clone(m), -1))
			for _, v := range neighbours.List() {
				if !slices.Contains(m, v) {
					longer = append(longer, append(slices.Clone(m), v))
				}
			}
		}
		out = longer
	}
	return out
}

// model is what the definitions say of a graph.
type model struct {
	size             int
	deficient, least []int
	left, right      []int
}

// modelOf looks at all matchings of a graph.
func modelOf(g matching.Graph) model {
	var m model
	for _, x := range all(g) {
		m.size = max(m.size, matched(x))
	}
	var without, right bits.Set
	for _, x := range all(g) {
		if matched(x) < m.size {
			continue
		}
		for i, v := range x {
			if v == -1 {
				without = without.With(i)
			}
		}
		if m.size == len(g) && m.least == nil {
			m.least = x
		}
	}
	for i := range g {
		if without.Has(i) {
			right = right.Or(g[i])
		} else {
			m.left = append(m.left, i)
		}
	}
	m.deficient, m.right = without.List(), right.List()
	return m
}

// check checks what all functions say of a graph.
func check(t *testing.T, g matching.Graph) {
	t.Helper()
	before := slices.Clone(g)
	want := modelOf(g)
	m, e := matching.Maximum(g)
	if e != api.OK || matched(m) != want.size || !slices.ContainsFunc(all(g), func(x []int) bool { return slices.Equal(x, m) }) {
		t.Errorf("%s: Maximum %v, %v, with %d matched", text(g), m, e, want.size)
	}
	if n, e := matching.Size(g); n != want.size || e != api.OK {
		t.Errorf("%s: Size %d, %v, not %d", text(g), n, e, want.size)
	}
	if l, ok := matching.Deficient(g); !slices.Equal(l, want.deficient) || ok != (want.size < len(g)) {
		t.Errorf("%s: Deficient %v, %v, not %v", text(g), l, ok, want.deficient)
	}
	if l, ok := matching.Least(g); !slices.Equal(l, want.least) || ok != (want.size == len(g)) {
		t.Errorf("%s: Least %v, %v, not %v", text(g), l, ok, want.least)
	}
	if left, right := matching.Cover(g); !slices.Equal(left, want.left) || !slices.Equal(right, want.right) {
		t.Errorf("%s: Cover %v, %v, not %v, %v", text(g), left, right, want.left, want.right)
	}
	proved(t, g)
	if !slices.EqualFunc(g, before, bits.Set.Equal) {
		t.Errorf("%s has been changed to %s", text(before), text(g))
	}
}

// proved checks that the cover and the deficient vertices prove what the size is.
func proved(t *testing.T, g matching.Graph) {
	t.Helper()
	m, _ := matching.Maximum(g)
	size, _ := matching.Size(g)
	if !matching.Check(g, m) || matched(m) != size {
		t.Errorf("%s: Maximum %v is no matching of the size %d", text(g), m, size)
	}
	left, right := matching.Cover(g)
	if len(left)+len(right) != size || !slices.IsSorted(left) || !slices.IsSorted(right) {
		t.Errorf("%s: Cover %v, %v for the size %d", text(g), left, right, size)
	}
	for i, neighbours := range g {
		if !slices.Contains(left, i) && !neighbours.Within(bits.Of(right...)) {
			t.Errorf("%s: Cover %v, %v lacks an edge of %d", text(g), left, right, i)
		}
	}
	var neighbours bits.Set
	l, ok := matching.Deficient(g)
	for _, i := range l {
		neighbours = neighbours.Or(g[i])
	}
	if ok != (size < len(g)) || len(l)-neighbours.Len() != len(g)-size || !slices.IsSorted(l) || !slices.Equal(neighbours.List(), right) {
		t.Errorf("%s: Deficient %v, %v, with the neighbours %s", text(g), l, ok, neighbours.Text())
	}
}

// P9.1 to P9.4: all graphs with three vertices on both sides, and the smaller ones.
func TestSmallGraphs(t *testing.T) {
	for n := range 4 {
		for s := range 1 << (3 * n) {
			g := make(matching.Graph, n)
			for i := range 3 * n {
				if s>>i&1 == 1 {
					g[i/3] = g[i/3].With(i % 3)
				}
			}
			check(t, g)
		}
	}
	check(t, nil)
	check(t, matching.Graph{{}, {}})
}

// P9.1 to P9.4: random graphs, with right vertices at the borders of words and of what is valid.
func TestRandomGraphs(t *testing.T) {
	r := rand.New(rand.NewSource(9))
	for range 1500 {
		right := []int{0, 1, 63, 64, 200, 255}[:2+r.Intn(5)]
		check(t, random(r, 1+r.Intn(6), right, 0.1+0.7*r.Float64()))
	}
}

// P9.1
func TestCheck(t *testing.T) {
	g := graph([]int{0, 255}, nil, []int{0, 1})
	var matchings [][]int
	values := []int{math.MinInt, -2, -1, 0, 1, 2, 255, 256, 4096, math.MaxInt}
	for _, a := range values {
		for _, b := range values {
			for _, c := range values {
				m := []int{a, b, c}
				if matching.Check(g, m) {
					matchings = append(matchings, m)
				}
				if !slices.Equal(m, []int{a, b, c}) {
					t.Fatalf("Check has changed %v", []int{a, b, c})
				}
			}
		}
	}
	if want := all(g); !slices.EqualFunc(matchings, want, slices.Equal) {
		t.Errorf("Check accepts %v, not %v", matchings, want)
	}
	for _, m := range [][]int{nil, {}, {-1}, {0, -1}, {0, -1, 1, -1}, {-1, -1, -1, -1}} {
		if matching.Check(g, m) {
			t.Errorf("Check accepts %v, which has another length", m)
		}
	}
	if !matching.Check(nil, nil) || !matching.Check(matching.Graph{}, []int{}) || matching.Check(nil, []int{-1}) {
		t.Error("Check of the graph without left vertices")
	}
}

// P9.1: a result is new memory, and the same for the same graph.
func TestResultsAreNew(t *testing.T) {
	g := graph([]int{0, 1, 2}, []int{0, 2}, []int{0})
	a, _ := matching.Maximum(g)
	b, _ := matching.Least(g)
	left, right := matching.Cover(g)
	want := slices.Clone(a)
	clear(a)
	clear(b)
	clear(left)
	clear(right)
	if m, _ := matching.Maximum(g); !slices.Equal(m, want) {
		t.Errorf("Maximum: %v, and %v before", m, want)
	}
	if m, _ := matching.Least(g); !slices.Equal(m, []int{1, 2, 0}) {
		t.Errorf("Least: %v", m)
	}
	if left, right := matching.Cover(g); !slices.Equal(left, []int{0, 1, 2}) || len(right) != 0 {
		t.Errorf("Cover: %v, %v", left, right)
	}
}

// P9.1 to P9.4: the examples of the chapter.
func TestExamples(t *testing.T) {
	g := graph([]int{0, 1}, []int{0}, []int{0})
	if n, e := matching.Size(g); n != 2 || e != api.OK {
		t.Errorf("Size: %d, %v", n, e)
	}
	if l, ok := matching.Deficient(g); !slices.Equal(l, []int{1, 2}) || !ok {
		t.Errorf("Deficient: %v, %v", l, ok)
	}
	if left, right := matching.Cover(g); !slices.Equal(left, []int{0}) || !slices.Equal(right, []int{0}) {
		t.Errorf("Cover: %v, %v", left, right)
	}
	if l, ok := matching.Least(g); len(l) != 0 || ok {
		t.Errorf("Least: %v, %v", l, ok)
	}
	g = graph([]int{0, 1, 2}, []int{0, 2}, []int{0})
	if l, ok := matching.Least(g); !slices.Equal(l, []int{1, 2, 0}) || !ok {
		t.Errorf("Least: %v, %v", l, ok)
	}
	if l, ok := matching.Least(g[:2]); !slices.Equal(l, []int{0, 2}) || !ok {
		t.Errorf("Least: %v, %v", l, ok)
	}
	if l, ok := matching.Deficient(g); len(l) != 0 || ok {
		t.Errorf("Deficient: %v, %v", l, ok)
	}
}

// P9.1 to P9.4: the largest graphs, of many shapes.
func TestLargeGraphs(t *testing.T) {
	r := rand.New(rand.NewSource(10))
	every := bits.Below(256).List()
	for _, share := range []float64{0, 0.002, 0.005, 0.01, 0.02, 0.5, 1} {
		for _, left := range []int{255, 256} {
			proved(t, random(r, left, every, share))
			proved(t, random(r, left, every[:100], share))
		}
	}
	ladder, fan := make(matching.Graph, 256), make(matching.Graph, 256)
	for i := range ladder {
		// one way only to match all of them, along which the last one moves everybody
		ladder[i] = bits.Of(i, (i+1)%256)
		fan[i] = bits.Below(256 - i)
	}
	ladder[255] = bits.Of(0)
	proved(t, ladder)
	proved(t, fan)
	for i, v := range leastOf(t, ladder) {
		if v != (i+1)%256 {
			t.Fatalf("the ladder: %d at %d", v, i)
		}
	}
	for i, v := range leastOf(t, fan) {
		if v != 255-i {
			t.Fatalf("the fan: %d at %d", v, i)
		}
	}
	full := random(r, 256, every, 1)
	if l := leastOf(t, full); !slices.Equal(l, every) {
		t.Errorf("all edges: Least %v", l)
	}
}

// leastOf returns the least matching of a graph, which must have one.
func leastOf(t *testing.T, g matching.Graph) []int {
	t.Helper()
	l, ok := matching.Least(g)
	if !ok || !matching.Check(g, l) || matched(l) != len(g) {
		t.Fatalf("Least: %v, %v", l, ok)
	}
	return l
}

// P9.3: no vertex of a larger graph could have a lesser one behind the choices before it.
func TestLeastOfLargerGraphs(t *testing.T) {
	r := rand.New(rand.NewSource(11))
	tried := 0
	for range 150 {
		g := random(r, 40, bits.Below(256).Minus(bits.Below(216)).List(), 0.2)
		if n, _ := matching.Size(g); n < len(g) {
			continue
		}
		l := leastOf(t, g)
		rest := slices.Clone(g)
		for i, v := range l {
			for w := range rest[i].All() {
				if w >= v {
					break
				}
				other := without(rest, i, w)
				tried++
				if n, _ := matching.Size(other); n == len(g) {
					t.Fatalf("%s: Least %v, but %d is possible at %d", text(g), l, w, i)
				}
			}
			rest = without(rest, i, v)
		}
	}
	if tried < 1000 {
		t.Errorf("only %d others were tried", tried)
	}
}

// without returns the graph in which the left vertex i has the neighbour v alone, and nobody else has it.
func without(g matching.Graph, i, v int) matching.Graph {
	out := make(matching.Graph, len(g))
	for k := range g {
		out[k] = g[k].Without(v)
	}
	out[i] = bits.Of(v)
	return out
}

// P9.5
func TestErrors(t *testing.T) {
	many := make(matching.Graph, 257)
	manyBad := slices.Clone(many)
	manyBad[3] = bits.Of(256)
	last := make(matching.Graph, 256)
	last[255] = bits.Of(4095)
	for _, c := range []struct {
		g matching.Graph
		e api.Errno
	}{
		{many, api.ErrLimit}, {manyBad, api.ErrLimit}, {make(matching.Graph, 5000), api.ErrLimit},
		{graph([]int{256}), api.ErrArg}, {graph([]int{0}, []int{1, 2, 300}), api.ErrArg}, {graph(nil, []int{4095}), api.ErrArg}, {last, api.ErrArg},
	} {
		if m, e := matching.Maximum(c.g); len(m) != 0 || e != c.e {
			t.Errorf("Maximum of %.80s: %v, %v, not %v", text(c.g), m, e, c.e)
		}
		if n, e := matching.Size(c.g); n != 0 || e != c.e {
			t.Errorf("Size of %.80s: %d, %v, not %v", text(c.g), n, e, c.e)
		}
		nobody := slices.Repeat([]int{-1}, len(c.g))
		if matching.Check(c.g, nobody) || matching.Check(c.g, nil) {
			t.Errorf("Check of %.80s", text(c.g))
		}
		if l, ok := matching.Deficient(c.g); len(l) != 0 || ok {
			t.Errorf("Deficient of %.80s: %v, %v", text(c.g), l, ok)
		}
		if l, ok := matching.Least(c.g); len(l) != 0 || ok {
			t.Errorf("Least of %.80s: %v, %v", text(c.g), l, ok)
		}
		if left, right := matching.Cover(c.g); len(left) != 0 || len(right) != 0 {
			t.Errorf("Cover of %.80s: %v, %v", text(c.g), left, right)
		}
	}
	for _, g := range []matching.Graph{nil, {}, many[:256], graph([]int{255})} {
		if m, e := matching.Maximum(g); len(m) != len(g) || e != api.OK {
			t.Errorf("Maximum of %.80s: %v, %v", text(g), m, e)
		}
	}
}
