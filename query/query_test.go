package query_test

import (
	"fmt"
	"math"
	"math/rand"
	"slices"
	"strings"
	"testing"

	"arbac/api"
	"arbac/bits"
	"arbac/grant"
	"arbac/permission"
	"arbac/query"
	"arbac/state"
)

// texts returns the texts of permissions.
func texts(l []P) string {
	var s []string
	for _, p := range l {
		s = append(s, p.Text())
	}
	return strings.Join(s, ", ")
}

// P30.2 to P30.7: the examples of the chapter.
func TestExamples(t *testing.T) {
	s := example(t)
	if l := query.Who(s, "read", "/a/b"); !slices.Equal(l, []int{1}) {
		t.Errorf("Who is %v", l)
	}
	if l := query.Who(s, "write", "/a"); !slices.Equal(l, []int{1, 2}) {
		t.Errorf("Who is %v", l)
	}
	if l := query.What(s, 1); texts(l) != "read /a/*, write /a" {
		t.Errorf("What of user 1 is %s", texts(l))
	}
	if l := query.What(s, 2); texts(l) != "write /a" {
		t.Errorf("What of user 2 is %s", texts(l))
	}
	if roles := query.Having(s, "read", "/a/b"); roles.Text() != "{1 2}" {
		t.Errorf("Having is %s", roles.Text())
	}
	if l, e := query.Roles(s, []N{{"read", "/a/b"}, {"write", "/a"}}); e != api.OK || !slices.Equal(l, []int{1}) {
		t.Errorf("Roles is %v, %d", l, e)
	}
	if l := query.Idle(s); len(l) > 0 {
		t.Errorf("Idle is %v", l)
	}
	next := after(t, s, appoint(2, 2, 9))
	if l := query.Gained(s, next, 2); texts(l) != "read /a/*" {
		t.Errorf("Gained is %s", texts(l))
	}
	if l := query.Lost(next, s, 2); texts(l) != "read /a/*" {
		t.Errorf("Lost is %s", texts(l))
	}
	if len(query.Gained(next, s, 2)) > 0 || len(query.Lost(s, next, 2)) > 0 || len(query.Gained(s, next, 1)) > 0 {
		t.Error("more is gained or lost")
	}
	if l := query.Alike(next); fmt.Sprint(l) != "[[1] [2]]" {
		t.Errorf("Alike is %v", l)
	}
	if l := query.Idle(after(t, s, day(10))); !slices.Equal(l, []int{1, 2, 3}) {
		t.Errorf("Idle on the day after is %v", l)
	}
	if l := query.Alike(after(t, s, day(10))); fmt.Sprint(l) != "[[1 2]]" {
		t.Errorf("Alike on the day after is %v", l)
	}
}

// P30.1: each error, and the first of both; needs are compared with ==.
func TestCheck(t *testing.T) {
	for _, x := range []struct {
		n    N
		want api.Errno
	}{
		{N{"read", "/"}, api.OK}, {N{"abcdefghijkl", "/a/a/a/a/a/a/a/a"}, api.OK}, {N{"r_2", "/a.b/-"}, api.OK},
		{N{"", "/a"}, api.ErrName}, {N{"by", "/a"}, api.ErrName}, {N{"Read", "/a"}, api.ErrName}, {N{"abcdefghijklm", "/a"}, api.ErrName}, {N{strings.Repeat("a", 1<<20), "/a"}, api.ErrName},
		{N{"read", ""}, api.ErrForm}, {N{"read", "a"}, api.ErrForm}, {N{"read", "/a/"}, api.ErrForm}, {N{"read", "/a/a/a/a/a/a/a/a/a"}, api.ErrForm}, {N{"read", "/a/*"}, api.ErrForm}, {N{"read", strings.Repeat("/a", 1<<20)}, api.ErrForm},
		{N{}, api.ErrName}, {N{"by", "a"}, api.ErrName}, {N{"", "/a/"}, api.ErrName},
	} {
		if e := query.Check(x.n); e != x.want {
			t.Errorf("Check(%.20q, %.20q): error %d, not %d", x.n.Action, x.n.Path, e, x.want)
		}
	}
	for _, n := range requests {
		if (query.Check(n) == api.OK) != valid(n) {
			t.Errorf("Check(%.20q, %.20q): error %d", n.Action, n.Path, query.Check(n))
		}
	}
}

// P30.2, P30.3, P30.5, P30.8: random states, by the definitions.
func TestAccess(t *testing.T) {
	r := rand.New(rand.NewSource(302))
	who, roles, shorter := 0, 0, 0
	for range 300 {
		s := random(t, r)
		p := s.Parts()
		for _, user := range numbers {
			want := permission.Normal(held(p, member(p, user)))
			if l := query.What(s, user); !slices.Equal(l, want) || (user < 1 || user > s.Users()) && len(l) > 0 {
				t.Fatalf("What(%d) is %s, not %s", user, texts(l), texts(want))
			}
			if len(want) < len(held(p, member(p, user))) {
				shorter++
			}
		}
		for _, n := range requests {
			having, l := query.Having(s, n.Action, n.Path), query.Who(s, n.Action, n.Path)
			if want := havingOf(p, n); !having.Equal(want) {
				t.Fatalf("Having(%q, %q) is %s, not %s", n.Action, n.Path, having.Text(), want.Text())
			}
			roles += having.Len()
			var want []int
			for user := 1; user <= s.Users(); user++ {
				has := covers(held(p, member(p, user)), n)
				if has {
					want = append(want, user)
				}
				if has != s.Has(user, n.Action, n.Path) || has != covers(query.What(s, user), n) || has != s.Member(user).Meets(having) {
					t.Fatalf("%q, %q of user %d: Has is %v, What %s, Having %s", n.Action, n.Path, user, has, texts(query.What(s, user)), having.Text())
				}
			}
			if !slices.Equal(l, want) {
				t.Fatalf("Who(%q, %q) is %v, not %v", n.Action, n.Path, l, want)
			}
			who += len(want)
		}
	}
	if who < 1000 || roles < 1000 || shorter < 50 {
		t.Errorf("only %d users have something, %d roles give something, %d lists are shortened", who, roles, shorter)
	}
}

// P30.4: what a user may in one state and not in the other one, request by request too.
func TestGained(t *testing.T) {
	r := rand.New(rand.NewSource(304))
	gained, kept := 0, 0
	for range 800 {
		s := random(t, r)
		o := later(r, s)
		p, q := s.Parts(), o.Parts()
		for _, user := range numbers {
			old, now := held(p, member(p, user)), held(q, member(q, user))
			var want []P
			for _, x := range permission.Normal(now) {
				if !slices.ContainsFunc(old, func(y P) bool { return permission.Implies(y, x) }) {
					want = append(want, x)
				}
			}
			l := query.Gained(s, o, user)
			if !slices.Equal(l, want) || !slices.Equal(query.Lost(o, s, user), want) {
				t.Fatalf("user %d gains %s, not %s", user, texts(l), texts(want))
			}
			gained += len(want)
			kept += len(permission.Normal(now)) - len(want)
			for _, n := range requests {
				if covers(now, n) && !covers(old, n) && !covers(l, n) {
					t.Fatalf("user %d gains %q, %q, but not by %s", user, n.Action, n.Path, texts(l))
				}
			}
			if !slices.Equal(query.Gained(nil, o, user), query.What(o, user)) || !slices.Equal(query.Lost(o, nil, user), query.What(o, user)) || len(query.Gained(o, nil, user)) > 0 || len(query.Lost(nil, o, user)) > 0 || len(query.Gained(o, o, user)) > 0 {
				t.Fatalf("user %d and a nil state", user)
			}
		}
	}
	if gained < 400 || kept < 400 {
		t.Errorf("only %d permissions are gained, %d kept", gained, kept)
	}
}

// P30.7: random states, by the definitions.
func TestIdleAndAlike(t *testing.T) {
	r := rand.New(rand.NewSource(307))
	idle, classes, together := 0, 0, 0
	for range 1000 {
		s := random(t, r)
		p := s.Parts()
		var want []int
		for role := 1; role <= s.Roles(); role++ {
			has := false
			for user := 1; user <= s.Users(); user++ {
				has = has || member(p, user).Has(role)
			}
			if !has && !p.Admin.Has(role) {
				want = append(want, role)
			}
		}
		if l := query.Idle(s); !slices.Equal(l, want) {
			t.Fatalf("Idle is %v, not %v", l, want)
		}
		idle += len(want)
		var alike [][]int
		for user := 1; user <= s.Users(); user++ {
			i := slices.IndexFunc(alike, func(class []int) bool { return member(p, class[0]).Equal(member(p, user)) })
			if i < 0 {
				alike = append(alike, []int{user})
			} else {
				alike[i] = append(alike[i], user)
				together++
			}
		}
		if l := query.Alike(s); fmt.Sprint(l) != fmt.Sprint(alike) {
			t.Fatalf("Alike is %v, not %v", l, alike)
		}
		classes += len(alike)
	}
	if idle < 1000 || classes < 1000 || together < 500 {
		t.Errorf("only %d idle roles, %d classes, %d users like another one", idle, classes, together)
	}
}

// P30.7: administrative roles tell users apart, but are never idle; what is implied counts as much as what is assigned.
func TestKinds(t *testing.T) {
	s := regular(t, 4, 2, addAdmin("hr"), addAdmin("boss"), link(1, 2), appoint(1, 1, 9), appoint(2, 1, 9), appoint(2, 2, 9), appoint(3, 1, 9), appoint(3, 3, 9))
	if l := query.Alike(s); fmt.Sprint(l) != "[[1 2] [3] [4]]" {
		t.Errorf("Alike is %v", l)
	}
	if l := query.Idle(s); len(l) > 0 {
		t.Errorf("Idle is %v", l)
	}
	if l := query.Idle(after(t, s, dismiss(1, 1), dismiss(2, 1), dismiss(3, 1))); !slices.Equal(l, []int{1}) {
		t.Errorf("Idle is %v", l)
	}
}

// For a nil state: nothing; the states at the beginning have nothing, either.
func TestNil(t *testing.T) {
	for _, s := range []*S{nil, new(S), state.New()} {
		for _, n := range requests {
			if len(query.Who(s, n.Action, n.Path)) > 0 || !query.Having(s, n.Action, n.Path).Empty() {
				t.Fatalf("%+v in a state without anything", n)
			}
		}
		for _, user := range numbers {
			if len(query.What(s, user)) > 0 || len(query.Gained(s, s, user)) > 0 || len(query.Lost(s, s, user)) > 0 || len(query.Gained(nil, s, user)) > 0 {
				t.Fatalf("user %d in a state without anything", user)
			}
		}
		if len(query.Idle(s)) > 0 || len(query.Alike(s)) > 0 {
			t.Error("somebody in a state without anything")
		}
	}
}

// full returns a state with as many users, roles and grants as there may be.
func full(t *testing.T) *S {
	t.Helper()
	s := regular(t, api.MaxUsers, api.MaxRoles)
	for role := 1; role < api.MaxRoles; role++ {
		s = after(t, s, link(role, role+1))
	}
	for user := 1; user <= api.MaxUsers; user++ {
		s = after(t, s, appoint(user, 1+user%api.MaxRoles, 9))
	}
	for i := range grant.Max {
		s = after(t, s, grants(1+i%api.MaxRoles, fmt.Sprintf("read /a%d/b", i)))
	}
	return s
}

// P30.2 to P30.7 in a state that is full.
func TestFull(t *testing.T) {
	s := full(t)
	if l := query.Who(s, "read", "/a62/b"); len(l) != api.MaxUsers {
		t.Errorf("%d users have what the most junior role has", len(l))
	}
	if l := query.Who(s, "read", "/a0/b"); !slices.Equal(l, []int{63, 126, 189, 252}) {
		t.Errorf("%v have what the most senior role has", l)
	}
	if roles := query.Having(s, "read", "/a62/b"); !roles.Equal(bits.Below(64).Without(0)) {
		t.Errorf("Having is %s", roles.Text())
	}
	if len(query.What(s, 63)) != grant.Max || len(query.What(s, 256)) >= grant.Max || len(query.What(s, 257)) > 0 || len(query.What(s, math.MaxInt)) > 0 {
		t.Error("What of users")
	}
	if l := query.Alike(s); len(l) != api.MaxRoles || fmt.Sprint(l[0], l[62]) != "[1 64 127 190 253] [63 126 189 252]" {
		t.Errorf("Alike is %v", l)
	}
	if l := query.Idle(s); len(l) > 0 {
		t.Errorf("Idle is %v", l)
	}
	if l := query.Idle(after(t, s, day(10))); !slices.Equal(l, bits.Below(64).Without(0).List()) {
		t.Errorf("Idle is %v", l)
	}
}

// No call changes a state, and results are new memory.
func TestMemory(t *testing.T) {
	s := after(t, example(t), addRole("r4"), addUser("u3"))
	before := s.Digest()
	needs := []N{{"read", "/a/b"}, {"write", "/a"}, {"read", "/a/b"}}
	kept := slices.Clone(needs)
	answers := func() (string, [][]int, [][]P) {
		roles, _ := query.Roles(s, needs)
		classes := query.Alike(s)
		lists := append([][]int{query.Who(s, "write", "/a"), roles, query.Idle(s)}, classes...)
		held := [][]P{query.What(s, 1), query.Gained(nil, s, 1), query.Lost(s, nil, 1)}
		return fmt.Sprint(lists, held), lists, held
	}
	want, lists, held := answers()
	for _, l := range lists {
		clear(l[:cap(l)])
	}
	for _, l := range held {
		clear(l[:cap(l)])
	}
	if got, _, _ := answers(); got != want || s.Digest() != before || !slices.Equal(needs, kept) {
		t.Errorf("%s after a change of results, not %s", got, want)
	}
	// What is appended to one class does not reach another one.
	classes := query.Alike(s)
	for _, c := range classes {
		_ = append(c, 77, 77, 77)
	}
	if fmt.Sprint(classes) != "[[1] [2] [3]]" {
		t.Errorf("Alike is %v", classes)
	}
}
