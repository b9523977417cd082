package query_test

import (
	"fmt"
	"math/rand"
	"slices"
	"strings"
	"testing"

	"arbac/api"
	"arbac/bits"
	"arbac/change"
	"arbac/query"
	"arbac/state"
)

// best returns what Roles returns, by trying all sets of regular roles.
func best(p state.Parts, l []N) ([]int, api.Errno) {
	for _, n := range l {
		if e := query.Check(n); e != api.OK {
			return nil, e
		}
	}
	var some bits.Set
	var wanted []bits.Set
	none := false
	for _, n := range l {
		roles := havingOf(p, n)
		wanted = append(wanted, roles)
		some = some.Or(roles)
		none = none || roles.Empty()
	}
	switch {
	case none:
		return nil, api.ErrNone
	case some.Len() > 16:
		return nil, api.ErrLimit
	}
	var found []int
	first := true
	for mask := range 1 << p.Roles.Len() {
		var set bits.Set
		for role := 1; role <= p.Roles.Len(); role++ {
			if mask>>(role-1)&1 == 1 {
				set = set.With(role)
			}
		}
		if set.Meets(p.Admin) || slices.ContainsFunc(wanted, func(roles bits.Set) bool { return !set.Meets(roles) }) {
			continue
		}
		if c := set.List(); first || len(c) < len(found) || len(c) == len(found) && slices.Compare(c, found) < 0 {
			found, first = c, false
		}
	}
	return found, api.OK
}

// scattered returns the state with some grants for single objects.
func scattered(r *rand.Rand, s *S) *S {
	for range 4 * s.Roles() {
		if next, e := change.Apply(s, grants(1+r.Intn(s.Roles()), "read "+object(r.Intn(8)))); e == api.OK {
			s = next
		}
	}
	return s
}

// P30.6: random states and needs, compared with all sets of roles.
func TestRoles(t *testing.T) {
	r := rand.New(rand.NewSource(306))
	sizes, errors := map[int]int{}, map[api.Errno]int{}
	for range 3000 {
		s := random(t, r)
		if r.Intn(2) == 0 {
			s = scattered(r, s)
		}
		var l []N
		for range r.Intn(9) {
			n := N{pick(r, "read", "write"), pick(r, "/", "/a", "/a/b", "/a/b/c", "/a/b/c/d", "/d", "/d/e", "/ab")}
			if r.Intn(9) > 0 && s.Parts().Grants.Len() > 0 {
				e := pick(r, s.Parts().Grants.Entries()...)
				n = N{e.Permission.Action, e.Permission.Path}
			}
			if r.Intn(40) == 0 {
				n = pick(r, requests...)
			}
			l = append(l, n)
		}
		want, e := best(s.Parts(), l)
		got, f := query.Roles(s, l)
		if f != e || !slices.Equal(got, want) {
			t.Fatalf("Roles(%v) is %v, error %d, not %v, error %d", l, got, f, want, e)
		}
		errors[e]++
		if e == api.OK {
			sizes[len(want)]++
		}
	}
	if sizes[0] < 50 || sizes[1] < 100 || sizes[2] < 50 || sizes[3] < 15 || errors[api.ErrNone] < 50 || errors[api.ErrName] < 5 || errors[api.ErrForm] < 5 {
		t.Errorf("sizes %v, errors %v", sizes, errors)
	}
}

// object returns a path with a number.
func object(i int) string { return fmt.Sprintf("/o%d", i) }

// P30.6: which one of several sets.
func TestRolesLeast(t *testing.T) {
	needs := func(l ...int) []N {
		var out []N
		for _, i := range l {
			out = append(out, N{"read", object(i)})
		}
		return out
	}
	reads := func(role int, l ...int) []C {
		var out []C
		for _, i := range l {
			out = append(out, grants(role, "read "+object(i)))
		}
		return out
	}
	for _, x := range []struct {
		what string
		s    *S
		l    []N
		want string
	}{
		{"no needs", regular(t, 0, 3), nil, "[]"},
		{"one role", regular(t, 0, 3, reads(2, 1)...), needs(1), "[2]"},
		{"the same need again", regular(t, 0, 3, reads(2, 1)...), needs(1, 1, 1), "[2]"},
		{"the least of two", regular(t, 0, 3, append(reads(3, 1), reads(2, 1)...)...), needs(1), "[2]"},
		{"one great role rather than two small ones", regular(t, 0, 3, slices.Concat(reads(1, 1), reads(2, 2), reads(3, 1, 2))...), needs(1, 2), "[3]"},
		{"not the role that gives most", regular(t, 0, 3, slices.Concat(reads(1, 1, 2, 3, 4), reads(2, 1, 2, 5), reads(3, 3, 4, 6))...), needs(1, 2, 3, 4, 5, 6), "[2 3]"},
		{"1 and 4 rather than 2 and 3", regular(t, 0, 4, slices.Concat(reads(1, 1, 2), reads(2, 1, 3), reads(3, 2, 4), reads(4, 3, 4))...), needs(1, 2, 3, 4), "[1 4]"},
		{"2 and 3 rather than 2 and 4", regular(t, 0, 4, slices.Concat(reads(1, 1), reads(2, 1, 2), reads(3, 3), reads(4, 3))...), needs(1, 2, 3), "[2 3]"},
		{"by implied roles", regular(t, 0, 4, slices.Concat(reads(1, 1), reads(2, 2), []C{link(4, 1), link(4, 2)})...), needs(1, 2), "[4]"},
		{"a greatest role that only implies", regular(t, 0, 3, slices.Concat(reads(2, 1), []C{link(1, 2), link(3, 2)})...), needs(1), "[1]"},
		{"by deep permissions", regular(t, 0, 2, grants(1, "read /o1"), grants(2, "read /*")), needs(1, 2), "[2]"},
	} {
		if l, e := query.Roles(x.s, x.l); e != api.OK || fmt.Sprint(l) != x.want {
			t.Errorf("%s: %v, error %d", x.what, l, e)
		}
	}
}

// P30.6: the errors, and the first of several.
func TestRolesErrors(t *testing.T) {
	s := regular(t, 0, 20, grants(1, "read /a"))
	for role := 1; role <= 17; role++ {
		s = after(t, s, grants(role, "read /all"), grants(role, "read "+object(role)))
	}
	for role := 1; role <= 16; role++ {
		s = after(t, s, grants(role, "read /most"))
	}
	good, bad, worse := N{"read", "/a"}, N{"read", "/a/"}, N{"by", "/a"}
	none, all, most := N{"read", "/none"}, N{"read", "/all"}, N{"read", "/most"}
	for _, x := range []struct {
		what string
		s    *S
		l    []N
		want api.Errno
	}{
		{"no state", nil, []N{good}, api.ErrArg}, {"no state, no needs", nil, nil, api.ErrArg}, {"no state before a bad need", nil, []N{worse}, api.ErrArg},
		{"a bad path", s, []N{good, bad}, api.ErrForm}, {"a bad action", s, []N{good, worse}, api.ErrName}, {"both in one need", s, []N{{"by", "a"}}, api.ErrName}, {"the first of two", s, []N{bad, worse}, api.ErrForm}, {"the first of two", s, []N{worse, bad}, api.ErrName},
		{"a bad need before one that nobody gives", s, []N{none, bad}, api.ErrForm}, {"a bad need before too many roles", s, []N{all, worse}, api.ErrName},
		{"nobody gives it", s, []N{none}, api.ErrNone}, {"nobody gives one of them", s, []N{good, none, most}, api.ErrNone}, {"nobody before too many roles", s, []N{all, none}, api.ErrNone}, {"nobody in an empty state", state.New(), []N{good}, api.ErrNone}, {"nobody in the zero state", new(S), []N{good}, api.ErrNone},
		{"17 roles for one need", s, []N{all}, api.ErrLimit}, {"17 roles for one of them", s, []N{good, all}, api.ErrLimit}, {"16 roles and another one", s, []N{most, {"read", object(17)}}, api.ErrLimit},
	} {
		if l, e := query.Roles(x.s, x.l); e != x.want || len(l) > 0 {
			t.Errorf("%s: %v, error %d, not %d", x.what, l, e, x.want)
		}
	}
	for _, x := range []struct {
		l    []N
		want string
	}{{[]N{most}, "[1]"}, {[]N{most, good}, "[1]"}, {[]N{most, {"read", object(16)}}, "[16]"}, {[]N{most, {"read", object(16)}, good}, "[1 16]"}, {nil, "[]"}, {[]N{}, "[]"}} {
		if l, e := query.Roles(s, x.l); e != api.OK || fmt.Sprint(l) != x.want {
			t.Errorf("Roles(%v) is %v, error %d, not %s", x.l, l, e, x.want)
		}
	}
	if l, e := query.Roles(state.New(), nil); e != api.OK || len(l) > 0 {
		t.Errorf("no needs in an empty state: %v, error %d", l, e)
	}
	long := strings.Repeat("/a", 1<<16)
	if l, e := query.Roles(s, []N{{"read", long}}); e != api.ErrForm || len(l) > 0 {
		t.Errorf("a long path: %v, error %d", l, e)
	}
	// An administrative role gives nothing, and does not count.
	admin := after(t, regular(t, 0, 16), addAdmin("hr"), addAdmin("boss"), link(18, 17))
	for role := 1; role <= 16; role++ {
		admin = after(t, admin, grants(role, "read /all"))
	}
	if l, e := query.Roles(admin, []N{all}); e != api.OK || fmt.Sprint(l) != "[1]" {
		t.Errorf("16 regular roles and two others: %v, error %d", l, e)
	}
}

// P30.6: 16 roles and many needs.
func TestRolesMany(t *testing.T) {
	r := rand.New(rand.NewSource(316))
	for range 3 {
		var l []C
		var needs []N
		for i := 0; len(l) < 900; i++ {
			needs = append(needs, N{"read", object(i)})
			for _, role := range r.Perm(16)[:1+r.Intn(5)] {
				l = append(l, grants(role+1, "read "+object(i)))
			}
		}
		s := regular(t, 0, 16, l...)
		got, e := query.Roles(s, slices.Repeat(needs, 100))
		if e != api.OK {
			t.Fatalf("%v, error %d", got, e)
		}
		for _, n := range needs {
			if !query.Having(s, n.Action, n.Path).Meets(bits.Of(got...)) {
				t.Fatalf("%v does not give %v", got, n)
			}
		}
	}
	// Each role is needed.
	s := regular(t, 0, 16)
	var needs []N
	for role := 1; role <= 16; role++ {
		s = after(t, s, grants(role, "read "+object(role)))
		needs = append(needs, N{"read", object(role)})
	}
	if got, e := query.Roles(s, needs); e != api.OK || !bits.Of(got...).Equal(bits.Below(17).Without(0)) || !slices.IsSorted(got) {
		t.Errorf("%v, error %d", got, e)
	}
}
