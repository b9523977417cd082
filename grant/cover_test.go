package grant_test

import (
	"math/rand"
	"slices"
	"testing"

	"arbac/api"
	"arbac/bits"
	"arbac/grant"
	"arbac/hierarchy"
	"arbac/permission"
)

// sets are sets of roles, with and without numbers that are no roles.
func sets() []bits.Set {
	return []bits.Set{
		{}, bits.Of(0), bits.Of(64, 4095), bits.Of(1), bits.Of(2), bits.Of(63), bits.Of(1, 2), bits.Of(0, 3, 64), bits.Of(2, 5, 62), bits.Of(4),
		bits.Of(1, 2, 3, 5, 62, 63), bits.Below(4096), bits.Below(4096).Minus(bits.Of(1, 2, 3)),
	}
}

// P13.2
func TestCovering(t *testing.T) {
	covered, not := 0, 0
	for _, l := range lists() {
		b, m := of(t, l...), modelOf(l)
		for _, q := range requests() {
			want := m.covering(q[0], q[1])
			if got := b.Covering(q[0], q[1]); !got.Equal(want) {
				t.Fatalf("%v: Covering(%s, %s): %s, not %s", l, q[0], q[1], got.Text(), want.Text())
			}
			for _, s := range sets() {
				some := !s.And(want).Empty()
				if b.Has(s, q[0], q[1]) != some {
					t.Fatalf("%v: Has(%s, %s, %s) is %v", l, s.Text(), q[0], q[1], !some)
				}
				if some {
					covered++
				} else {
					not++
				}
			}
		}
	}
	if covered < 1000 || not < 1000 {
		t.Errorf("only %d requests are covered, and %d are not", covered, not)
	}
}

// P13.2
func TestAll(t *testing.T) {
	for _, l := range lists() {
		b := of(t, l...)
		for _, s := range sets() {
			var all []P
			for _, x := range l {
				if s.Has(x.Role) {
					all = append(all, x.Permission)
				}
			}
			if got, want := b.All(s), permission.Normal(all); !slices.Equal(got, want) {
				t.Fatalf("%v: All(%s): %v, not %v", l, s.Text(), got, want)
			}
		}
	}
}

// links returns a random hierarchy of the roles of random grants, and of one role more.
func links(r *rand.Rand, n int) *hierarchy.Hierarchy {
	all := append([]int{4}, roles...)
	h := hierarchy.New()
	for range n {
		if next, e := h.Link(all[r.Intn(len(all))], all[r.Intn(len(all))]); e == api.OK {
			h = next
		}
	}
	return h
}

// P13.3: as the definition says; and without the redundant grants closed sets have the same permissions.
func TestRedundant(t *testing.T) {
	r := rand.New(rand.NewSource(16))
	some, all := 0, 0
	for _, l := range lists() {
		b, m := of(t, l...), modelOf(l)
		var none *hierarchy.Hierarchy
		for _, h := range []*hierarchy.Hierarchy{none, hierarchy.New(), links(r, 2), links(r, 6), links(r, 30)} {
			got, want := b.Redundant(h), m.redundant(h)
			if !slices.Equal(got, want) {
				t.Fatalf("%v with %v: Redundant: %v, not %v", l, h.Links(), got, want)
			}
			some, all = some+len(got), all+len(l)
			left := b
			for _, x := range got {
				left, _ = left.Withdraw(x.Role, x.Permission)
			}
			for _, s := range append(sets(), bits.Of(3), bits.Of(5), bits.Of(62)) {
				if closed := h.Closure(s); !slices.Equal(left.All(closed), b.All(closed)) {
					t.Fatalf("%v with %v: %s has other permissions without %v", l, h.Links(), closed.Text(), got)
				}
			}
		}
		check(t, "the book after Redundant", b, m)
	}
	if some < 300 || all-some < 300 {
		t.Errorf("only %d of %d grants are redundant", some, all)
	}
}

// P13.3: the grant of the junior makes that of the senior redundant, not the other way round; no grant does so by itself.
func TestRedundantEdges(t *testing.T) {
	deep, at := on("read", "/a", true), on("read", "/a", false)
	h, _ := hierarchy.New().Link(2, 3)
	h, _ = h.Link(3, 4)
	for _, c := range []struct {
		h    *hierarchy.Hierarchy
		l, r []E
	}{
		{h, nil, nil}, {nil, []E{{1, deep}}, nil}, {h, []E{{2, deep}}, nil},
		{nil, []E{{1, deep}, {1, at}}, []E{{1, at}}}, {h, []E{{1, deep}, {1, at}}, []E{{1, at}}},
		{nil, []E{{1, deep}, {2, deep}}, nil}, {h, []E{{1, deep}, {2, deep}}, nil},
		{h, []E{{2, deep}, {3, deep}}, []E{{2, deep}}}, {h, []E{{2, deep}, {4, deep}}, []E{{2, deep}}},
		{h, []E{{2, at}, {4, deep}}, []E{{2, at}}}, {h, []E{{2, deep}, {4, at}}, nil},
		{h, []E{{2, at}, {3, at}, {4, at}}, []E{{2, at}, {3, at}}}, {h, []E{{2, at}, {3, on("run", "/a", true)}}, nil},
		{h, []E{{2, on("read", "/ab", false)}, {3, deep}}, nil}, {h, []E{{2, on("read", eight, false)}, {3, on("read", "/", true)}}, []E{{2, on("read", eight, false)}}},
		{h, []E{{2, on("read", "/", false)}, {3, on("read", "/", true)}}, []E{{2, on("read", "/", false)}}},
	} {
		if got := of(t, c.l...).Redundant(c.h); !slices.Equal(got, c.r) {
			t.Errorf("%v: Redundant: %v, not %v", c.l, got, c.r)
		}
	}
}

// P13.1 to P13.3: the examples of the chapter.
func TestExamples(t *testing.T) {
	b := of(t, E{1, on("read", "/a", true)}, E{2, on("read", "/a/b", false)})
	if !b.Covering("read", "/a/b").Equal(bits.Of(1, 2)) || !b.Covering("read", "/a/c").Equal(bits.Of(1)) {
		t.Error("Covering")
	}
	up, _ := hierarchy.New().Link(2, 1)
	down, _ := hierarchy.New().Link(1, 2)
	if got := b.Redundant(up); !slices.Equal(got, []E{{2, on("read", "/a/b", false)}}) {
		t.Errorf("Redundant: %v", got)
	}
	if got := b.Redundant(down); len(got) != 0 {
		t.Errorf("Redundant: %v", got)
	}
}

// P1, P13.2, P13.3: a full book, under a hierarchy in which each role implies all that follow.
func TestFullBookInChain(t *testing.T) {
	b := of(t, most()...)
	h := hierarchy.New()
	for role := 1; role < 63; role++ {
		h, _ = h.Link(role, role+1)
	}
	for range 200 {
		if b.Has(bits.Below(64), "run", eight) || !b.Has(bits.Below(64), "read", "/a/a/a/a") {
			t.Fatal("Has")
		}
	}
	if len(b.Redundant(h)) != 0 || len(b.All(bits.Below(64))) != grant.Max {
		t.Error("Redundant or All")
	}
}
