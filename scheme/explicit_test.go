package scheme_test

import (
	"math"
	"math/rand"
	"slices"
	"testing"

	"arbac/api"
	"arbac/bits"
	"arbac/cube"
	"arbac/hierarchy"
	"arbac/scheme"
)

// explicit returns cubes over explicit roles as the chapter says that they are made.
func explicit(p P, c C) ([]C, api.Errno) {
	first := C{}
	for _, r := range c.No.List() {
		first.No = first.No.Or(p.Links.Seniors(r))
	}
	l := []C{first}
	for _, r := range c.Yes.List() {
		var next []C
		for _, x := range l {
			for _, senior := range p.Links.Seniors(r).List() {
				next = append(next, C{Yes: x.Yes.With(senior), No: x.No})
			}
		}
		if l = cube.Simple(next); len(l) > api.MaxCubes {
			return nil, api.ErrLimit
		}
	}
	return l, api.OK
}

// wantExplicit checks the cubes over explicit roles for a cube, and an error.
func wantExplicit(t *testing.T, p P, c C, want []C, e api.Errno) {
	t.Helper()
	got, f := scheme.Explicit(p, c)
	if f != e || !slices.EqualFunc(got, want, cube.Equal) {
		t.Fatalf("Explicit(%s): %d cubes %q, error %d; not %d, %q, error %d", c.Text(), len(got), texts(got), f, len(want), texts(want), e)
	}
}

// P31.3: the examples of the chapter, and others by hand.
func TestExplicit(t *testing.T) {
	over, net := linked(t, [2]int{1, 2}), linked(t, [2]int{1, 3}, [2]int{1, 4}, [2]int{2, 4}, [2]int{4, 5})
	for _, x := range []struct {
		h    *hierarchy.Hierarchy
		c    string
		want []string
	}{
		{over, "2", []string{"1", "2"}}, {over, "!2", []string{"!1 !2"}}, {over, "!1 2", []string{"!1 2"}},
		{over, "full", []string{"full"}}, {over, "1", []string{"1"}}, {over, "!1", []string{"!1"}}, {over, "1 2", []string{"1"}}, {over, "1 !2", nil}, {over, "!1 !2", []string{"!1 !2"}},
		{over, "5", []string{"5"}}, {over, "!3 5", []string{"!3 5"}}, {over, "2 5", []string{"1 5", "2 5"}}, {over, "3 4 5", []string{"3 4 5"}},
		{net, "5", []string{"1", "2", "4", "5"}}, {net, "3 4", []string{"1", "2 3", "3 4"}}, {net, "!2 3 4", []string{"1 !2", "!2 3 4"}}, {net, "3 !4", []string{"!1 !2 3 !4"}}, {net, "!3 4", []string{"!1 2 !3", "!1 !3 4"}},
		{net, "3 4 5", []string{"1", "2 3", "3 4"}}, {net, "!5", []string{"!1 !2 !4 !5"}}, {net, "1 !5", nil}, {net, "!1 3 5", []string{"!1 2 3", "!1 3 4", "!1 3 5"}},
	} {
		var want []C
		for _, s := range x.want {
			want = append(want, parsed(t, s)...)
		}
		slices.SortFunc(want, cube.Compare)
		wantExplicit(t, P{Roles: 5, Links: x.h}, parsed(t, x.c)[0], want, api.OK)
	}
	// A cube that no set satisfies, by itself or because of the links.
	wantExplicit(t, P{Roles: 5, Links: net}, C{Yes: bits.Of(3), No: bits.Of(3)}, nil, api.OK)
	wantExplicit(t, P{Roles: 5, Links: net}, C{Yes: bits.Of(1, 2), No: bits.Of(4)}, nil, api.OK)
}

// P31.3: random cubes, as they are made; and what satisfies them.
func TestExplicitRandom(t *testing.T) {
	r := rand.New(rand.NewSource(313))
	lengths := map[int]int{}
	for range 2500 {
		p := P{Roles: 1 + r.Intn(7)}
		p.Links = randomLinks(r, p.Roles)
		c := C{Yes: randomSet(r, p.Roles, 2), No: randomSet(r, p.Roles, 12)}
		want, e := explicit(p, c)
		wantExplicit(t, p, c, want, e)
		for _, s := range subsets(numbers(p.Roles)) {
			if cube.Some(want, s) != satisfies(p, []C{c}, s) {
				t.Fatalf("%v: %s satisfies one of %q: %v", p.Links.Links(), s.Text(), texts(want), !satisfies(p, []C{c}, s))
			}
		}
		lengths[len(want)]++
	}
	for n := range 5 {
		if lengths[n] < 20 {
			t.Errorf("only %d cubes have %d", lengths[n], n)
		}
	}
}

// P31.3: many roles, with lists that grow and shrink.
func TestExplicitLarge(t *testing.T) {
	r := rand.New(rand.NewSource(3133))
	limits, large := 0, 0
	for range 150 {
		p := P{Roles: 63, Links: hierarchy.New()}
		for range 20 + r.Intn(150) {
			senior, junior := 10+r.Intn(54), 1+r.Intn(12)
			if next, e := p.Links.Link(senior, junior); e == api.OK {
				p.Links = next
			}
		}
		c := C{Yes: randomSet(r, 12, 2)}
		if r.Intn(2) == 0 {
			c.No = bits.Of(20+r.Intn(44), 20+r.Intn(44))
		}
		if c.Yes.Len() > 4 {
			c.Yes = bits.Of(c.Yes.List()[:4]...)
		}
		want, e := explicit(p, c)
		wantExplicit(t, p, c, want, e)
		if e != api.OK {
			limits++
		} else if len(want) > 50 {
			large++
		}
	}
	if limits < 5 || large < 20 {
		t.Errorf("%d errors, %d large lists", limits, large)
	}
}

// groups returns a hierarchy in which role i has the i-th number of seniors, itself included, and none of those of another one.
func groups(t *testing.T, seniors ...int) *hierarchy.Hierarchy {
	t.Helper()
	h, next := hierarchy.New(), len(seniors)+1
	for i, n := range seniors {
		for range n - 1 {
			h = with(t, h, next, i+1)
			next++
		}
	}
	return h
}

// with returns a hierarchy with a further link.
func with(t *testing.T, h *hierarchy.Hierarchy, senior, junior int) *hierarchy.Hierarchy {
	t.Helper()
	next, e := h.Link(senior, junior)
	return must(t, next, e)
}

// P31.3: exactly as many cubes as there may be, and one more.
func TestExplicitLimit(t *testing.T) {
	three := C{Yes: bits.Of(1, 2, 3)}
	p := P{Roles: 63, Links: groups(t, 10, 10, 20)}
	want, _ := explicit(p, three)
	if len(want) != 2000 {
		t.Fatalf("%d cubes", len(want))
	}
	wantExplicit(t, p, three, want, api.OK)
	p.Links = groups(t, 3, 23, 29)
	wantExplicit(t, p, three, nil, api.ErrLimit)
	// Role 55 is senior to role 3: there would be 69 cubes at the end, but the list was too long before.
	wantExplicit(t, p, C{Yes: bits.Of(1, 2, 3, 55)}, nil, api.ErrLimit)
	// Where such a senior is role 1, it comes first, and the list is never too long.
	p.Links = with(t, groups(t, 1, 3, 23, 29), 1, 4)
	want, _ = explicit(p, C{Yes: bits.Of(1, 2, 3, 4)})
	if len(want) != 69 {
		t.Fatalf("%d cubes", len(want))
	}
	wantExplicit(t, p, C{Yes: bits.Of(1, 2, 3, 4)}, want, api.OK)
	// What must not be there leaves cubes out before they count.
	p.Links = groups(t, 3, 23, 29)
	some := C{Yes: bits.Of(1, 2, 3), No: bits.Of(40)}
	if want, _ = explicit(p, some); len(want) != 3*23*28 {
		t.Fatalf("%d cubes", len(want))
	}
	wantExplicit(t, p, some, want, api.OK)
	// All roles at once: in one chain, without links, and in groups.
	p.Links = hierarchy.New()
	for i := range 62 {
		p.Links = with(t, p.Links, i+1, i+2)
	}
	wantExplicit(t, p, C{Yes: bits.Of(numbers(63)...)}, []C{{Yes: bits.Of(1)}}, api.OK)
	p.Links = hierarchy.New()
	wantExplicit(t, p, C{Yes: bits.Of(numbers(63)...)}, []C{{Yes: bits.Of(numbers(63)...)}}, api.OK)
	p.Links = groups(t, 9, 9, 9, 9, 9, 9, 9)
	wantExplicit(t, p, C{Yes: bits.Of(numbers(7)...)}, nil, api.ErrLimit)
}

// P31.3: the errors, and problems that Check refuses.
func TestExplicitErrors(t *testing.T) {
	over := linked(t, [2]int{1, 2})
	for _, x := range []struct {
		p    P
		c    C
		want []string
		e    api.Errno
	}{
		{P{Roles: 5}, C{}, nil, api.ErrArg}, {P{Roles: 5}, C{Yes: bits.Of(6)}, nil, api.ErrArg}, {P{}, C{}, nil, api.ErrArg},
		{P{Roles: 5, Links: over}, C{Yes: bits.Of(6)}, nil, api.ErrNone}, {P{Roles: 5, Links: over}, C{No: bits.Of(6)}, nil, api.ErrNone},
		{P{Roles: 5, Links: over}, C{Yes: bits.Of(0)}, nil, api.ErrNone}, {P{Roles: 5, Links: over}, C{No: bits.Of(1, 4095)}, nil, api.ErrNone},
		{P{Links: over}, C{Yes: bits.Of(1)}, nil, api.ErrNone}, {P{Links: over, Roles: -1}, C{No: bits.Of(1)}, nil, api.ErrNone}, {P{Links: over, Roles: math.MinInt}, C{No: bits.Of(1)}, nil, api.ErrNone},
		{P{Links: over}, C{}, []string{"full"}, api.OK}, {P{Links: over, Roles: math.MaxInt}, C{Yes: bits.Of(2)}, []string{"1", "2"}, api.OK},
		{P{Links: over, Roles: 5, Start: bits.Of(9), Rules: make([]R, 100), Never: []C{{}}}, C{Yes: bits.Of(2)}, []string{"1", "2"}, api.OK},
		// A number above 63 is no role, so it is in no closure.
		{P{Links: over, Roles: 100}, C{Yes: bits.Of(100)}, nil, api.OK}, {P{Links: over, Roles: 100}, C{No: bits.Of(100)}, []string{"full"}, api.OK},
	} {
		var want []C
		for _, s := range x.want {
			want = append(want, parsed(t, s)...)
		}
		wantExplicit(t, x.p, x.c, want, x.e)
	}
}
