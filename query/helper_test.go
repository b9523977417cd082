package query_test

import (
	"fmt"
	"math"
	"math/rand"
	"slices"
	"strings"
	"testing"

	"arbac/api"
	"arbac/bits"
	"arbac/change"
	"arbac/names"
	"arbac/path"
	"arbac/permission"
	"arbac/query"
	"arbac/state"
)

// C, N, P and S are short for changes, needs, permissions and states.
type (
	C = change.Change
	N = query.Need
	P = permission.Permission
	S = state.State
)

func addUser(name string) C         { return C{Kind: change.AddUser, Name: name} }
func addRole(name string) C         { return C{Kind: change.AddRole, Name: name} }
func addAdmin(name string) C        { return C{Kind: change.AddAdmin, Name: name} }
func link(senior, junior int) C     { return C{Kind: change.Link, Role: senior, Other: junior} }
func appoint(user, role, day int) C { return C{Kind: change.Appoint, User: user, Role: role, Day: day} }
func dismiss(user, role int) C      { return C{Kind: change.Dismiss, User: user, Role: role} }
func day(day int) C                 { return C{Kind: change.Day, Day: day} }

// may returns the permission with a text.
func may(text string) P {
	p, e := permission.Parse(text)
	if e != api.OK {
		panic(text)
	}
	return p
}

func grants(role int, text string) C {
	return C{Kind: change.Grant, Role: role, Permission: may(text)}
}

// after returns the state after changes.
func after(t *testing.T, s *S, l ...C) *S {
	t.Helper()
	next, at, e := change.All(s, l)
	if e != api.OK {
		t.Fatalf("change %d, %s: error %d", at, change.Text(l[at]), e)
	}
	return next
}

// regular returns a state with the users u1, u2, .. and the regular roles r1, r2, ..
func regular(t *testing.T, users, roles int, l ...C) *S {
	t.Helper()
	s := state.New()
	for i := range users {
		s = after(t, s, addUser(fmt.Sprintf("u%d", i+1)))
	}
	for i := range roles {
		s = after(t, s, addRole(fmt.Sprintf("r%d", i+1)))
	}
	return after(t, s, l...)
}

// example returns the state of example 1 of the chapter.
func example(t *testing.T) *S {
	t.Helper()
	return regular(t, 2, 3, link(1, 2), link(1, 3), grants(2, "read /a/*"), grants(3, "write /a"), appoint(1, 1, 9), appoint(2, 3, 9))
}

// pick returns one element of a list.
func pick[X any](r *rand.Rand, l ...X) X { return l[r.Intn(len(l))] }

// random returns a state of some users and roles, on day 5.
func random(t *testing.T, r *rand.Rand) *S {
	t.Helper()
	p := state.New().Parts()
	p.Day = 5
	users, roles := r.Intn(7), r.Intn(9)
	for i := range users {
		p.Users, _, _ = p.Users.Add(fmt.Sprintf("u%d", i), api.MaxUsers)
	}
	for i := range roles {
		p.Roles, _, _ = p.Roles.Add(fmt.Sprintf("r%d", i), api.MaxRoles)
		if r.Intn(5) == 0 {
			p.Admin = p.Admin.With(i + 1)
		}
	}
	if roles > 0 {
		for range r.Intn(10) {
			senior, junior := 1+r.Intn(roles), 1+r.Intn(roles)
			if next, e := p.Links.Link(senior, junior); e == api.OK && p.Admin.Has(senior) == p.Admin.Has(junior) {
				p.Links = next
			}
		}
		for range r.Intn(12) {
			role := 1 + r.Intn(roles)
			if next, e := p.Grants.Grant(role, P{Action: pick(r, "read", "read", "write"), Path: pick(r, "/", "/a", "/a/b", "/a/b/c", "/d"), Deep: r.Intn(2) == 0}); e == api.OK && !p.Admin.Has(role) {
				p.Grants = next
			}
		}
		for range r.Intn(1 + 2*users) {
			p.Members, _ = p.Members.Assign(1+r.Intn(users), 1+r.Intn(roles), pick(r, 3, 4, 5, 6, 30000))
		}
	}
	s, e := state.Of(p)
	if e != api.OK {
		t.Fatalf("random state: error %d", e)
	}
	return s
}

// later returns the state after some changes of assignments and grants.
func later(r *rand.Rand, s *S) *S {
	for range r.Intn(12) {
		user, role := 1+r.Intn(s.Users()+1), 1+r.Intn(s.Roles()+1)
		p := P{Action: pick(r, "read", "write"), Path: pick(r, "/", "/a", "/a/b", "/d"), Deep: r.Intn(2) == 0}
		c := pick(r, appoint(user, role, 9), appoint(user, role, 9), dismiss(user, role), C{Kind: change.Grant, Role: role, Permission: p}, C{Kind: change.Withdraw, Role: role, Permission: p}, addUser("next"), day(s.Day()+r.Intn(2)))
		if next, e := change.Apply(s, c); e == api.OK {
			s = next
		}
	}
	return s
}

// requests has requests, and such that are not valid.
var requests = func() []N {
	var l []N
	for _, action := range []string{"read", "write", "sell", "by", "", "Read", "abcdefghijklm"} {
		for _, p := range []string{"/", "/a", "/a/b", "/a/b/c", "/a/b/c/d", "/d", "/d/e", "/ab", "", "a", "/a/", "/..", "/A", "/a/*", "/a/a/a/a/a/a/a/a", "/a/a/a/a/a/a/a/a/a"} {
			l = append(l, N{action, p})
		}
	}
	long := strings.Repeat("/a", 1<<16)
	return append(l, N{"read", long}, N{long, "/a"})
}()

// numbers has numbers of users, and others.
var numbers = []int{math.MinInt, -1, 0, 1, 2, 3, 4, 5, 6, 7, 63, 64, 256, 257, 4096, math.MaxInt}

// valid reports whether a need is valid.
func valid(n N) bool { return names.Valid(n.Action) && path.Valid(n.Path) }

// closure adds to roles all that they imply, link by link.
func closure(p state.Parts, roles bits.Set) bits.Set {
	for range 64 {
		for _, x := range p.Links.Links() {
			if roles.Has(x[0]) {
				roles = roles.With(x[1])
			}
		}
	}
	return roles
}

// member returns the member roles of a user, by the assignments.
func member(p state.Parts, user int) bits.Set {
	var explicit bits.Set
	for _, e := range p.Members.Entries() {
		if e.User == user && e.Until >= p.Day {
			explicit = explicit.With(e.Role)
		}
	}
	return closure(p, explicit)
}

// held returns all permissions that are granted to some roles.
func held(p state.Parts, roles bits.Set) []P {
	var l []P
	for _, e := range p.Grants.Entries() {
		if roles.Has(e.Role) {
			l = append(l, e.Permission)
		}
	}
	return l
}

// covers reports whether some permission of a list covers a need.
func covers(l []P, n N) bool {
	return slices.ContainsFunc(l, func(p P) bool { return permission.Covers(p, n.Action, n.Path) })
}

// havingOf returns the regular roles that give a need, by the definition.
func havingOf(p state.Parts, n N) bits.Set {
	var roles bits.Set
	for role := 1; role <= p.Roles.Len(); role++ {
		if !p.Admin.Has(role) && covers(held(p, closure(p, bits.Of(role))), n) {
			roles = roles.With(role)
		}
	}
	return roles
}
