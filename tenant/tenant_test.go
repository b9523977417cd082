package tenant_test

import (
	"fmt"
	"math/rand"
	"slices"
	"strings"
	"testing"

	"arbac/api"
	"arbac/change"
	"arbac/keccak"
	"arbac/state"
	"arbac/tenant"
)

// C and H are short for changes and houses.
type (
	C = change.Change
	H = tenant.House
)

func addUser(name string) C         { return C{Kind: change.AddUser, Name: name} }
func addRole(name string) C         { return C{Kind: change.AddRole, Name: name} }
func appoint(user, role, day int) C { return C{Kind: change.Appoint, User: user, Role: role, Day: day} }
func day(day int) C                 { return C{Kind: change.Day, Day: day} }

// founded returns a house with tenants, founded one after the other.
func founded(t *testing.T, l ...string) *H {
	t.Helper()
	h := tenant.New()
	for _, name := range l {
		next, e := h.Found(name)
		if e != api.OK || next == nil {
			t.Fatalf("Found(%q): error %d", name, e)
		}
		h = next
	}
	return h
}

// done returns the house after a transaction, which must be accepted.
func done(t *testing.T, h *H, name string, l ...C) *H {
	t.Helper()
	next, at, e := h.Do(name, l)
	if e != api.OK || at != 0 || next == nil {
		t.Fatalf("Do(%q, %v): %d, error %d", name, l, at, e)
	}
	return next
}

// after returns the state after changes, beginning with an empty one.
func after(t *testing.T, l ...C) *state.State {
	t.Helper()
	s, at, e := change.All(state.New(), l)
	if e != api.OK {
		t.Fatalf("change %d: error %d", at, e)
	}
	return s
}

// model is what is known of a tenant: all changes, and how many transactions they were.
type model struct {
	changes []C
	version int
}

// check checks that a house has the tenants of a model, and no others, by all that tells of them.
func check(t *testing.T, what string, h *H, want map[string]model) {
	t.Helper()
	var l []string
	for name, m := range want {
		l = append(l, name)
		s, ok := h.Get(name)
		if !ok || s == nil || !s.Equal(after(t, m.changes...)) || h.Version(name) != m.version {
			t.Fatalf("%s: tenant %q: %v, version %d", what, name, ok, h.Version(name))
		}
	}
	slices.Sort(l)
	if !slices.Equal(h.Names(), l) {
		t.Fatalf("%s: Names: %q, not %q", what, h.Names(), l)
	}
	for _, name := range []string{"", "by", "unknown", "A", "aa", "zz"} {
		if _, there := want[name]; there {
			continue
		}
		if s, ok := h.Get(name); s != nil || ok || h.Version(name) != 0 {
			t.Fatalf("%s: tenant %q: %v, %v, version %d", what, name, s, ok, h.Version(name))
		}
	}
}

// P26.1 to P26.3: the examples of the chapter.
func TestExamples(t *testing.T) {
	h := founded(t, "b", "a")
	check(t, "founded", h, map[string]model{"a": {}, "b": {}})
	if next, e := h.Found("a"); next != nil || e != api.ErrExists {
		t.Errorf("Found(a): error %d", e)
	}
	if next, e := h.Found("by"); next != nil || e != api.ErrName {
		t.Errorf("Found(by): error %d", e)
	}
	u := addUser("u")
	for _, x := range []struct {
		name string
		l    []C
		at   int
		want api.Errno
	}{{"a", []C{u, u}, 1, api.ErrExists}, {"c", []C{u}, 0, api.ErrNone}, {"a", nil, 0, api.ErrArg}} {
		if next, at, e := h.Do(x.name, x.l); next != nil || at != x.at || e != x.want {
			t.Errorf("Do(%q, %v): %d, error %d", x.name, x.l, at, e)
		}
	}
	check(t, "after errors", h, map[string]model{"a": {}, "b": {}})
	check(t, "done", done(t, h, "a", u), map[string]model{"a": {[]C{u}, 1}, "b": {}})
	if p := tenant.New().Bytes(); len(p) != 1 || p[0] != 0 {
		t.Errorf("Bytes: %x", p)
	}
}

// P26.1
func TestFound(t *testing.T) {
	check(t, "New", tenant.New(), nil)
	check(t, "zero value", new(H), nil)
	houses, want := []*H{tenant.New()}, map[string]model{}
	for i := range api.MaxTenants {
		name := fmt.Sprintf("t%d", i*7%16)
		next, e := houses[i].Found(name)
		if e != api.OK {
			t.Fatalf("Found(%q): error %d", name, e)
		}
		houses, want[name] = append(houses, next), model{}
		check(t, "founded", next, want)
	}
	for i, h := range houses {
		if len(h.Names()) != i {
			t.Errorf("a house has changed: %q", h.Names())
		}
	}
	full := houses[api.MaxTenants]
	for _, x := range []struct {
		h    *H
		name string
		want api.Errno
	}{
		{nil, "a", api.ErrArg}, {nil, "by", api.ErrArg}, {full, "more", api.ErrFull}, {full, "t3", api.ErrExists}, {full, "by", api.ErrName}, {full, "", api.ErrName},
		{houses[3], "", api.ErrName}, {houses[3], "A", api.ErrName}, {houses[3], "2nd", api.ErrName}, {houses[3], "abcdefghijklm", api.ErrName}, {houses[3], "t0", api.ErrExists}, {houses[3], "t0 ", api.ErrName},
		{houses[15], "t9", api.OK}, {houses[15], "abcdefghijkl", api.OK},
	} {
		next, e := x.h.Found(x.name)
		if e != x.want || (next == nil) != (e != api.OK) {
			t.Errorf("Found(%q): error %d, not %d", x.name, e, x.want)
		}
	}
	check(t, "full", full, want)
}

// P26.2
func TestDo(t *testing.T) {
	h := founded(t, "b", "a", "c")
	first, second := []C{addUser("u"), addRole("r")}, []C{appoint(1, 1, 9), day(3), day(5)}
	one := done(t, h, "b", first...)
	two := done(t, one, "b", second...)
	check(t, "before", h, map[string]model{"a": {}, "b": {}, "c": {}})
	check(t, "one", one, map[string]model{"a": {}, "b": {first, 1}, "c": {}})
	all := slices.Concat(first, second)
	check(t, "two", two, map[string]model{"a": {}, "b": {all, 2}, "c": {}})
	check(t, "without an effect", done(t, two, "b", day(5)), map[string]model{"a": {}, "b": {all, 3}, "c": {}})
	for _, x := range []struct {
		h    *H
		name string
		l    []C
		at   int
		want api.Errno
	}{
		{nil, "b", first, 0, api.ErrArg}, {nil, "", nil, 0, api.ErrArg}, {two, "b", nil, 0, api.ErrArg}, {two, "b", []C{}, 0, api.ErrArg}, {two, "unknown", nil, 0, api.ErrArg},
		{two, "unknown", first, 0, api.ErrNone}, {two, "by", first, 0, api.ErrNone}, {two, "", []C{{}}, 0, api.ErrNone}, {tenant.New(), "b", first, 0, api.ErrNone},
		{two, "b", []C{{}}, 0, api.ErrArg}, {two, "b", first, 0, api.ErrExists}, {two, "b", []C{day(6), day(7), day(6), {}}, 2, api.ErrRange},
		{two, "b", []C{day(6), appoint(2, 1, 9)}, 1, api.ErrNone}, {two, "a", []C{addUser("u"), {Kind: change.Day, By: 1}}, 1, api.ErrForm},
	} {
		before := slices.Clone(x.l)
		if next, at, e := x.h.Do(x.name, x.l); next != nil || at != x.at || e != x.want {
			t.Errorf("Do(%q, %v): %d, error %d", x.name, x.l, at, e)
		}
		if !slices.Equal(x.l, before) {
			t.Errorf("Do(%q, %v) has changed its argument", x.name, before)
		}
	}
	check(t, "after errors", two, map[string]model{"a": {}, "b": {all, 2}, "c": {}})
}

// P26.3: a caller does not change the names.
func TestNamesAreNew(t *testing.T) {
	h := founded(t, "b", "a")
	clear(h.Names())
	_ = append(h.Names()[:1], "x")
	check(t, "house", h, map[string]model{"a": {}, "b": {}})
}

// P26.3
func TestEqual(t *testing.T) {
	u := addUser("u")
	houses := []*H{
		nil, tenant.New(), founded(t, "a"), founded(t, "b"), founded(t, "a", "b"),
		done(t, founded(t, "a", "b"), "a", u), done(t, founded(t, "a", "b"), "b", u), done(t, founded(t, "a", "b"), "a", addUser("v")),
		done(t, founded(t, "a", "b"), "a", day(0)), done(t, done(t, founded(t, "a", "b"), "a", u), "a", day(0)),
	}
	for i, h := range houses {
		for j, o := range houses {
			if h.Equal(o) != (i == j) {
				t.Errorf("Equal of %d and %d is %v", i, j, i != j)
			}
		}
	}
	// The order of what was founded and done does not matter.
	a := done(t, done(t, founded(t, "a", "b"), "a", u), "b", addUser("v"))
	b := done(t, done(t, founded(t, "b", "a"), "b", addUser("v")), "a", u)
	if !a.Equal(b) || !new(H).Equal(tenant.New()) || a.Digest() != b.Digest() {
		t.Error("equal houses differ")
	}
}

// someChange returns a change that a tenant may accept, or not.
func someChange(r *rand.Rand) C {
	l := []C{addUser(fmt.Sprintf("u%d", r.Intn(5))), addRole(fmt.Sprintf("r%d", r.Intn(5))), appoint(1+r.Intn(3), 1+r.Intn(3), r.Intn(20)), day(r.Intn(8)), {}}
	return l[r.Intn(len(l))]
}

// P26.2 and P26.4: transactions of several tenants, compared with each tenant alone.
func TestTenantsAreSeparate(t *testing.T) {
	r := rand.New(rand.NewSource(264))
	list := strings.Fields("a b c d")
	refused, accepted := 0, 0
	for range 60 {
		h, want := founded(t, list...), map[string]model{"a": {}, "b": {}, "c": {}, "d": {}}
		for range 40 {
			name, l := list[r.Intn(4)], []C{someChange(r), someChange(r), someChange(r)}[:1+r.Intn(3)]
			m := want[name]
			_, first, wrong := change.All(after(t, m.changes...), l)
			next, at, e := h.Do(name, l)
			if e != wrong || at != first || (next == nil) != (e != api.OK) {
				t.Fatalf("Do(%q, %v): %d, error %d, not %d, %d", name, l, at, e, first, wrong)
			}
			check(t, "before", h, want)
			if e != api.OK {
				refused++
				continue
			}
			accepted++
			want[name] = model{slices.Concat(m.changes, l), m.version + 1}
			h = next
			check(t, "after", h, want)
		}
	}
	if refused < 500 || accepted < 500 {
		t.Errorf("%d transactions refused, %d accepted", refused, accepted)
	}
}

// All functions of a nil house.
func TestNil(t *testing.T) {
	var h *H
	if s, ok := h.Get("a"); s != nil || ok || h.Version("a") != 0 || len(h.Names()) != 0 || len(h.Bytes()) != 0 || h.Digest() != (keccak.ID{}) {
		t.Error("a nil house has something")
	}
	if !h.Equal(nil) || h.Equal(tenant.New()) || tenant.New().Equal(nil) {
		t.Error("Equal of a nil house")
	}
}
