package hierarchy_test

import (
	"bytes"
	"math"
	"math/rand"
	"slices"
	"testing"

	"arbac/api"
	"arbac/bits"
	"arbac/hierarchy"
)

// outside are numbers that are no roles.
var outside = []int{math.MinInt, -1, 0, 64, 65, 4095, 4096, math.MaxInt}

// of returns the hierarchy with some links, which must have no cycle.
func of(t *testing.T, links ...[2]int) *hierarchy.Hierarchy {
	t.Helper()
	h := hierarchy.New()
	for _, l := range links {
		next, e := h.Link(l[0], l[1])
		if e != api.OK || next == nil {
			t.Fatalf("Link(%v) to %v: %v", l, h.Links(), e)
		}
		h = next
	}
	return h
}

// model is a hierarchy: its links, each once and ascending, the roles from 1 on that
// can occur in them, and implies[r][s] if r implies s.
type model struct {
	roles   []int
	links   [][2]int
	implies [64][64]bool
}

// modelOf follows the paths of links as the definition says. A cycle is no error here.
func modelOf(most int, links [][2]int) *model {
	m := &model{links: slices.Clone(links)}
	slices.SortFunc(m.links, func(a, b [2]int) int { return slices.Compare(a[:], b[:]) })
	m.links = slices.Compact(m.links)
	for r := 1; r <= most; r++ {
		m.roles = append(m.roles, r)
		m.implies[r][r] = true
	}
	for _, l := range m.links {
		m.implies[l[0]][l[1]] = true
	}
	for _, c := range m.roles {
		for _, r := range m.roles {
			for _, s := range m.roles {
				m.implies[r][s] = m.implies[r][s] || m.implies[r][c] && m.implies[c][s]
			}
		}
	}
	return m
}

// closure returns the roles that some member of s implies.
func (m *model) closure(s bits.Set) bits.Set {
	var out bits.Set
	for _, a := range m.roles {
		for _, b := range m.roles {
			if s.Has(a) && m.implies[a][b] {
				out = out.With(b)
			}
		}
	}
	return out
}

// chain returns the shortest path from r to s, and the lexicographically least of those.
func (m *model) chain(r, s int) []int {
	if r == s {
		return []int{r}
	}
	var best []int
	for _, l := range m.links {
		if l[0] != r || !m.implies[l[1]][s] {
			continue
		}
		p := append([]int{r}, m.chain(l[1], s)...)
		if best == nil || len(p) < len(best) || len(p) == len(best) && slices.Compare(p, best) < 0 {
			best = p
		}
	}
	return best
}

// without returns the links but one.
func without(links [][2]int, gone [2]int) [][2]int {
	return slices.DeleteFunc(slices.Clone(links), func(l [2]int) bool { return l == gone })
}

// check checks that a hierarchy has the links of a model, and all that they imply.
func check(t *testing.T, what string, h *hierarchy.Hierarchy, m *model) {
	t.Helper()
	if h == nil || !slices.Equal(h.Links(), m.links) {
		t.Fatalf("%s: Links %v, not %v", what, h.Links(), m.links)
	}
	for _, r := range m.roles {
		var juniors, seniors bits.Set
		var direct []int
		for _, s := range m.roles {
			if m.implies[r][s] {
				juniors = juniors.With(s)
			}
			if m.implies[s][r] {
				seniors = seniors.With(s)
			}
			if slices.Contains(m.links, [2]int{r, s}) {
				direct = append(direct, s)
			}
			if h.Implies(r, s) != m.implies[r][s] {
				t.Fatalf("%s: %v: Implies(%d, %d) is %v", what, m.links, r, s, h.Implies(r, s))
			}
		}
		if !h.Juniors(r).Equal(juniors) || !h.Seniors(r).Equal(seniors) || !slices.Equal(h.Direct(r), direct) {
			t.Fatalf("%s: %v: of %d Juniors %s, Seniors %s, Direct %v", what, m.links, r, h.Juniors(r).Text(), h.Seniors(r).Text(), h.Direct(r))
		}
	}
}

// acyclic returns random links between the roles from 1 to most, without a cycle, in no order.
func acyclic(r *rand.Rand, most, links int) [][2]int {
	place := r.Perm(most + 1)
	var out [][2]int
	for range links {
		l := [2]int{1 + r.Intn(most), 1 + r.Intn(most)}
		if place[l[0]] < place[l[1]] && !slices.Contains(out, l) {
			out = append(out, l)
		}
	}
	return out
}

// sample is a hierarchy for tests: links between the roles from 1 to most.
type sample struct {
	most  int
	links [][2]int
}

// samples returns hierarchies of many shapes: the empty one, chains, crowns, random ones.
func samples() []sample {
	out := []sample{
		{63, nil}, {3, [][2]int{{1, 2}, {2, 3}, {1, 3}}},
		{4, [][2]int{{1, 2}, {1, 3}, {2, 4}, {3, 4}}},
		{5, [][2]int{{5, 4}, {4, 3}, {3, 2}, {2, 1}, {5, 1}}},
		{6, [][2]int{{1, 4}, {1, 5}, {2, 5}, {2, 6}, {3, 6}, {3, 4}}},
		{6, [][2]int{{1, 2}, {1, 3}, {2, 5}, {3, 4}, {4, 6}, {5, 6}}},
		{63, [][2]int{{63, 1}, {1, 62}, {63, 62}}},
	}
	r := rand.New(rand.NewSource(10))
	for _, most := range []int{3, 5, 8, 12, 63} {
		for _, n := range []int{most, 2 * most, most * most / 2} {
			out = append(out, sample{most, acyclic(r, most, n)})
		}
	}
	return out
}

// P10.1, P10.2: all links between three roles that have no cycle, put in any order.
func TestSmallHierarchies(t *testing.T) {
	pairs := [][2]int{{1, 2}, {1, 3}, {2, 1}, {2, 3}, {3, 1}, {3, 2}}
	var try func(h *hierarchy.Hierarchy, links [][2]int)
	try = func(h *hierarchy.Hierarchy, links [][2]int) {
		m := modelOf(3, links)
		check(t, "Link", h, m)
		for _, p := range pairs {
			next, e := h.Link(p[0], p[1])
			switch {
			case slices.Contains(links, p):
				if e != api.ErrExists || next != nil {
					t.Fatalf("%v: Link(%v): %v, not ErrExists", links, p, e)
				}
			case m.implies[p[1]][p[0]]:
				if e != api.ErrCycle || next != nil {
					t.Fatalf("%v: Link(%v): %v, not ErrCycle", links, p, e)
				}
			case e != api.OK:
				t.Fatalf("%v: Link(%v): %v", links, p, e)
			default:
				try(next, append(slices.Clone(links), p))
			}
		}
		check(t, "the hierarchy after Link", h, m)
	}
	try(hierarchy.New(), nil)
	try(new(hierarchy.Hierarchy), nil)
}

// P10.1, P10.2
func TestLinkUnlink(t *testing.T) {
	for _, c := range samples() {
		m := modelOf(c.most, c.links)
		h := of(t, c.links...)
		check(t, "Link", h, m)
		for _, r := range m.roles[:min(12, c.most)] {
			for _, s := range m.roles[max(0, c.most-12):] {
				p := [2]int{r, s}
				given := slices.Contains(c.links, p)
				less, e := h.Unlink(r, s)
				switch {
				case r == s:
					if e != api.ErrArg || less != nil {
						t.Fatalf("Unlink(%v): %v, not ErrArg", p, e)
					}
				case !given:
					if e != api.ErrNone || less != nil {
						t.Fatalf("%v: Unlink(%v): %v, not ErrNone", c.links, p, e)
					}
				case e != api.OK:
					t.Fatalf("%v: Unlink(%v): %v", c.links, p, e)
				default:
					check(t, "Unlink", less, modelOf(c.most, without(c.links, p)))
				}
				if _, e := h.Link(r, s); r != s && (e == api.ErrExists) != given || r != s && !given && (e == api.ErrCycle) != m.implies[s][r] {
					t.Fatalf("%v: Link(%v): %v", c.links, p, e)
				}
			}
		}
		check(t, "the hierarchy after Link and Unlink", h, m)
	}
}

// P10.1: ErrArg comes before the other errors.
func TestLinkUnlinkErrors(t *testing.T) {
	h := of(t, [2]int{1, 2}, [2]int{2, 63})
	for _, x := range outside {
		for _, p := range [][2]int{{x, 1}, {1, x}, {x, x}, {x, 0}} {
			if r, e := h.Link(p[0], p[1]); r != nil || e != api.ErrArg {
				t.Errorf("Link(%v): %v, not ErrArg", p, e)
			}
			if r, e := h.Unlink(p[0], p[1]); r != nil || e != api.ErrArg {
				t.Errorf("Unlink(%v): %v, not ErrArg", p, e)
			}
		}
	}
	for _, c := range []struct {
		senior, junior int
		link, unlink   api.Errno
	}{
		{1, 1, api.ErrArg, api.ErrArg}, {63, 63, api.ErrArg, api.ErrArg},
		{1, 2, api.ErrExists, api.OK}, {2, 63, api.ErrExists, api.OK},
		{2, 1, api.ErrCycle, api.ErrNone}, {63, 1, api.ErrCycle, api.ErrNone}, {63, 2, api.ErrCycle, api.ErrNone},
		{1, 63, api.OK, api.ErrNone}, {3, 1, api.OK, api.ErrNone}, {63, 3, api.OK, api.ErrNone},
	} {
		if r, e := h.Link(c.senior, c.junior); e != c.link || (r == nil) != (e != api.OK) {
			t.Errorf("Link(%d, %d): %v, not %v", c.senior, c.junior, e, c.link)
		}
		if r, e := h.Unlink(c.senior, c.junior); e != c.unlink || (r == nil) != (e != api.OK) {
			t.Errorf("Unlink(%d, %d): %v, not %v", c.senior, c.junior, e, c.unlink)
		}
	}
}

// P10.2, P10.3: numbers that are no roles.
func TestNoRoles(t *testing.T) {
	for _, h := range []*hierarchy.Hierarchy{hierarchy.New(), of(t, [2]int{1, 2}, [2]int{2, 63})} {
		for _, x := range outside {
			if !h.Juniors(x).Empty() || !h.Seniors(x).Empty() || len(h.Direct(x)) != 0 {
				t.Errorf("of %d: Juniors %s, Seniors %s, Direct %v", x, h.Juniors(x).Text(), h.Seniors(x).Text(), h.Direct(x))
			}
			for _, p := range [][2]int{{x, x}, {x, 1}, {1, x}, {0, x}} {
				if l, ok := h.Chain(p[0], p[1]); h.Implies(p[0], p[1]) || len(l) != 0 || ok {
					t.Errorf("%v: Implies %v, Chain %v, %v", p, h.Implies(p[0], p[1]), l, ok)
				}
			}
		}
		if s := h.Closure(bits.Of(0, 63, 64, 4095)); s.Text() != "{63}" {
			t.Errorf("Closure: %s", s.Text())
		}
		if s := h.Closure(bits.Of(0, 64, 4095)); !s.Empty() {
			t.Errorf("Closure: %s", s.Text())
		}
	}
}

// P10.2, P10.6
func TestClosure(t *testing.T) {
	r := rand.New(rand.NewSource(11))
	for _, c := range samples() {
		m := modelOf(c.most, c.links)
		h := of(t, c.links...)
		some := func() bits.Set {
			s := bits.Set{}
			for range r.Intn(5) {
				s = s.With(1 + r.Intn(c.most))
			}
			return s
		}
		for range 200 {
			s, o := some(), some()
			closed := h.Closure(s)
			if !closed.Equal(m.closure(s)) {
				t.Fatalf("%v: Closure of %s is %s", c.links, s.Text(), closed.Text())
			}
			if !s.Within(closed) || !h.Closure(closed).Equal(closed) || !closed.Within(h.Closure(s.Or(o))) || !h.Closure(s.Or(o)).Equal(closed.Or(h.Closure(o))) {
				t.Fatalf("%v: no closure operator: %s, %s", c.links, s.Text(), o.Text())
			}
			if !h.Closure(s.With(0).With(64).With(4095)).Equal(closed) {
				t.Fatalf("%v: Closure of %s and numbers that are no roles", c.links, s.Text())
			}
		}
		if !h.Closure(bits.Set{}).Empty() {
			t.Fatalf("%v: Closure of the empty set", c.links)
		}
	}
}

// P10.3
func TestChain(t *testing.T) {
	for _, c := range samples() {
		if len(c.links) > 100 {
			continue
		}
		m := modelOf(c.most, c.links)
		h := of(t, c.links...)
		for _, r := range m.roles {
			for _, s := range m.roles {
				want := m.chain(r, s)
				if l, ok := h.Chain(r, s); !slices.Equal(l, want) || ok != m.implies[r][s] {
					t.Errorf("%v: Chain(%d, %d): %v, %v, not %v", c.links, r, s, l, ok, want)
				}
			}
		}
	}
}

// P10.4
func TestRedundant(t *testing.T) {
	for _, c := range samples() {
		m := modelOf(c.most, c.links)
		var want [][2]int
		for _, l := range m.links {
			if modelOf(c.most, without(c.links, l)).implies[l[0]][l[1]] {
				want = append(want, l)
			}
		}
		h := of(t, c.links...)
		if got := h.Redundant(); !slices.Equal(got, want) {
			t.Errorf("%v: Redundant %v, not %v", c.links, got, want)
		}
		check(t, "the hierarchy after Redundant", h, m)
	}
}

// P10.1 to P10.4: the examples of the chapter.
func TestExamples(t *testing.T) {
	h := of(t, [2]int{1, 2}, [2]int{2, 3}, [2]int{1, 3})
	if s := h.Juniors(1).Text(); s != "{1 2 3}" {
		t.Errorf("Juniors(1): %s", s)
	}
	if l, ok := h.Chain(1, 3); !slices.Equal(l, []int{1, 3}) || !ok {
		t.Errorf("Chain(1, 3): %v, %v", l, ok)
	}
	if l := h.Redundant(); !slices.Equal(l, [][2]int{{1, 3}}) {
		t.Errorf("Redundant: %v", l)
	}
	if _, e := h.Link(3, 1); e != api.ErrCycle {
		t.Errorf("Link(3, 1): %v", e)
	}
	h = of(t, [2]int{1, 2}, [2]int{1, 3}, [2]int{2, 4}, [2]int{3, 4})
	if l, ok := h.Chain(1, 4); !slices.Equal(l, []int{1, 2, 4}) || !ok {
		t.Errorf("Chain(1, 4): %v, %v", l, ok)
	}
	if s := h.Closure(bits.Of(3)).Text(); s != "{3 4}" {
		t.Errorf("Closure: %s", s)
	}
	// a chain, and all that follows from it
	h = of(t, [2]int{1, 2}, [2]int{2, 3}, [2]int{1, 3}, [2]int{3, 4}, [2]int{1, 4}, [2]int{2, 4})
	if l := h.Redundant(); !slices.Equal(l, [][2]int{{1, 3}, {1, 4}, {2, 4}}) {
		t.Errorf("Redundant: %v", l)
	}
}

// P10.5
func TestEqual(t *testing.T) {
	l := []*hierarchy.Hierarchy{
		nil, hierarchy.New(), of(t, [2]int{1, 2}), of(t, [2]int{2, 1}), of(t, [2]int{1, 3}), of(t, [2]int{62, 63}),
		of(t, [2]int{1, 2}, [2]int{2, 3}), of(t, [2]int{1, 2}, [2]int{2, 3}, [2]int{1, 3}),
	}
	for i, h := range l {
		for j, o := range l {
			if h.Equal(o) != (i == j) {
				t.Errorf("Equal of %v and %v is %v", h.Links(), o.Links(), h.Equal(o))
			}
		}
	}
	other := of(t, [2]int{1, 3}, [2]int{2, 3}, [2]int{1, 2})
	less, _ := other.Unlink(1, 3)
	if !other.Equal(l[7]) || !l[7].Equal(other) || !less.Equal(l[6]) || less.Equal(other) {
		t.Error("Equal of hierarchies that were made in another order")
	}
	var zero hierarchy.Hierarchy
	if !zero.Equal(hierarchy.New()) || !hierarchy.New().Equal(&zero) || zero.Equal(nil) {
		t.Error("Equal of the zero value")
	}
}

// encoded returns the bytes of links, as the chapter describes them.
func encoded(links ...[2]int) []byte {
	var p []byte
	if len(links) > 127 {
		p = append(p, byte(128|len(links)>>7))
	}
	p = append(p, byte(len(links)&127))
	for _, l := range links {
		p = append(p, byte(l[0]), byte(l[1]))
	}
	return p
}

// full returns all links from a role to greater ones.
func full() [][2]int {
	var l [][2]int
	for r := 1; r <= 63; r++ {
		for s := r + 1; s <= 63; s++ {
			l = append(l, [2]int{r, s})
		}
	}
	return l
}

// P10.5
func TestBytes(t *testing.T) {
	for _, c := range append(samples(), sample{63, full()}) {
		m := modelOf(c.most, c.links)
		h := of(t, c.links...)
		p := h.Bytes()
		if !bytes.Equal(p, encoded(m.links...)) {
			t.Errorf("Bytes of %v: %x", m.links, p)
		}
		read, e := hierarchy.Read(p)
		if e != api.OK || !read.Equal(h) {
			t.Fatalf("Read of the bytes of %v: %v", m.links, e)
		}
		clear(p)
		check(t, "Read", read, m)
		if !bytes.Equal(h.Bytes(), encoded(m.links...)) {
			t.Errorf("a caller has changed the bytes of %v", m.links)
		}
	}
	if p := new(hierarchy.Hierarchy).Bytes(); !bytes.Equal(p, []byte{0}) {
		t.Errorf("Bytes of the zero value: %x", p)
	}
}

// P10.5: bytes of no hierarchy.
func TestReadErrors(t *testing.T) {
	good := encoded([2]int{1, 2}, [2]int{1, 63}, [2]int{62, 63})
	lists := [][]byte{
		nil, {}, {1}, {0, 0}, {0x80, 0}, {0x80, 1, 1, 2}, {1, 0x80, 1, 2}, {1, 1}, {2, 1, 2}, {1, 1, 2, 3},
		encoded([2]int{1, 1}), encoded([2]int{0, 1}), encoded([2]int{1, 0}), encoded([2]int{0, 0}), encoded([2]int{64, 1}), encoded([2]int{1, 64}),
		encoded([2]int{1, 2}, [2]int{1, 2}), encoded([2]int{1, 2}, [2]int{2, 1}), encoded([2]int{1, 2}, [2]int{2, 3}, [2]int{3, 1}),
		encoded([2]int{1, 3}, [2]int{1, 2}), encoded([2]int{2, 3}, [2]int{1, 3}), encoded([2]int{2, 3}, [2]int{1, 4}),
		encoded(append(full(), [2]int{63, 62})...), encoded(append(full(), [2]int{62, 63})...),
		{0x8f, 0x22, 1, 2}, {0xff, 0xff, 0xff, 0xff, 0xff, 0xff, 0xff, 0xff, 0x7f},
		{0x81, 0xff, 0xff, 0xff, 0xff, 0xff, 0xff, 0xff, 0xff, 0x7f}, bytes.Repeat([]byte{0xff}, 20), {1, 0x81, 0, 1},
		append(slices.Clone(good), 0),
	}
	for n := range good {
		lists = append(lists, good[:n])
	}
	for _, p := range lists {
		before := bytes.Clone(p)
		if h, e := hierarchy.Read(p); h != nil || e != api.ErrForm {
			t.Errorf("Read(%.40x): %v, %v", p, h.Links(), e)
		}
		if !bytes.Equal(p, before) {
			t.Errorf("Read(%.40x) has changed its argument", before)
		}
	}
}

// P10.5: whatever is read has exactly these bytes.
func TestReadIsCanonical(t *testing.T) {
	r := rand.New(rand.NewSource(12))
	read := 0
	for range 20000 {
		p := encoded([2]int{1, 2}, [2]int{2, 3}, [2]int{3, 4})
		for range 1 + r.Intn(4) {
			p[r.Intn(len(p))] = []byte{0, 1, 2, 3, 4, 5, 62, 63, 64, byte(r.Intn(256))}[r.Intn(10)]
		}
		p = p[:len(p)-r.Intn(3)*r.Intn(2)]
		h, e := hierarchy.Read(p)
		if e == api.OK {
			read++
			check(t, "Read", h, modelOf(63, h.Links()))
		}
		if e == api.OK && !bytes.Equal(h.Bytes(), p) || e != api.OK && (h != nil || e != api.ErrForm) {
			t.Fatalf("Read(%x): %v, %v", p, h.Links(), e)
		}
	}
	if read < 300 {
		t.Errorf("only %d hierarchies were read", read)
	}
}

// P10.1 to P10.4, Rules: a result is new memory, and hierarchies know nothing of each other.
func TestResultsAreNew(t *testing.T) {
	links := [][2]int{{1, 2}, {1, 3}, {2, 3}}
	h := of(t, links...)
	clear(h.Links())
	clear(h.Direct(1))
	clear(h.Redundant())
	l, _ := h.Chain(1, 3)
	clear(l)
	check(t, "after writing to results", h, modelOf(3, links))
	if l, _ := h.Chain(1, 3); !slices.Equal(l, []int{1, 3}) || !slices.Equal(h.Redundant(), [][2]int{{1, 3}}) {
		t.Errorf("after writing to results: Chain %v, Redundant %v", l, h.Redundant())
	}
	a, _ := h.Link(3, 4)
	b, _ := h.Link(4, 1)
	c, _ := h.Unlink(2, 3)
	check(t, "before Link and Unlink", h, modelOf(4, links))
	check(t, "first", a, modelOf(4, append(slices.Clone(links), [2]int{3, 4})))
	check(t, "second", b, modelOf(4, append(slices.Clone(links), [2]int{4, 1})))
	check(t, "third", c, modelOf(4, links[:2]))
}

// The sentence on nil hierarchies of the chapter.
func TestNil(t *testing.T) {
	var h *hierarchy.Hierarchy
	for _, p := range [][2]int{{1, 2}, {1, 1}, {0, 64}} {
		if r, e := h.Link(p[0], p[1]); r != nil || e != api.ErrArg {
			t.Errorf("Link(%v): %v", p, e)
		}
		if r, e := h.Unlink(p[0], p[1]); r != nil || e != api.ErrArg {
			t.Errorf("Unlink(%v): %v", p, e)
		}
		if l, ok := h.Chain(p[0], p[1]); h.Implies(p[0], p[1]) || len(l) != 0 || ok {
			t.Errorf("%v: Implies, or Chain %v, %v", p, l, ok)
		}
	}
	if len(h.Links()) != 0 || !h.Juniors(1).Empty() || !h.Seniors(1).Empty() || !h.Closure(bits.Of(1, 2)).Empty() || len(h.Direct(1)) != 0 || len(h.Redundant()) != 0 || len(h.Bytes()) != 0 {
		t.Error("a nil hierarchy has something")
	}
	if !h.Equal(nil) || h.Equal(hierarchy.New()) || hierarchy.New().Equal(h) {
		t.Error("Equal of a nil hierarchy")
	}
}
