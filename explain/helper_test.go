package explain_test

import (
	"fmt"
	"math"
	"math/rand"
	"slices"
	"strings"
	"testing"

	"arbac/api"
	"arbac/bits"
	"arbac/change"
	"arbac/explain"
	"arbac/membership"
	"arbac/monitor"
	"arbac/names"
	"arbac/path"
	"arbac/permission"
	"arbac/state"
)

// C, K, P, Q and S are short for changes, chains, permissions, requests and states.
type (
	C = change.Change
	K = explain.Chain
	P = permission.Permission
	Q = monitor.Request
	S = state.State
)

func addUser(name string) C         { return C{Kind: change.AddUser, Name: name} }
func addRole(name string) C         { return C{Kind: change.AddRole, Name: name} }
func addAdmin(name string) C        { return C{Kind: change.AddAdmin, Name: name} }
func link(senior, junior int) C     { return C{Kind: change.Link, Role: senior, Other: junior} }
func appoint(user, role, day int) C { return C{Kind: change.Appoint, User: user, Role: role, Day: day} }
func dismiss(user, role int) C      { return C{Kind: change.Dismiss, User: user, Role: role} }
func open(user int) C               { return C{Kind: change.Open, User: user} }
func closes(session int) C          { return C{Kind: change.Close, Session: session} }
func day(day int) C                 { return C{Kind: change.Day, Day: day} }

func activate(session, role int) C {
	return C{Kind: change.Activate, Session: session, Role: role}
}

func deactivate(session, role int) C {
	return C{Kind: change.Deactivate, Session: session, Role: role}
}

// may returns the permission with a text.
func may(text string) P {
	p, e := permission.Parse(text)
	if e != api.OK {
		panic(text)
	}
	return p
}

func grants(role int, text string) C {
	return C{Kind: change.Grant, Role: role, Permission: may(text)}
}

// after returns the state after changes.
func after(t *testing.T, s *S, l ...C) *S {
	t.Helper()
	next, at, e := change.All(s, l)
	if e != api.OK {
		t.Fatalf("change %d, %s: error %d", at, change.Text(l[at]), e)
	}
	return next
}

// regular returns a state with a user and n regular roles r1, r2, ..
func regular(t *testing.T, n int, l ...C) *S {
	t.Helper()
	s := after(t, state.New(), addUser("u"))
	for i := range n {
		s = after(t, s, addRole(fmt.Sprintf("r%d", i+1)))
	}
	return after(t, s, l...)
}

// example returns the state of example 1 of the chapter.
func example(t *testing.T) *S {
	t.Helper()
	return after(t, state.New(), addUser("u"), addRole("chief"), addRole("clerk"), addRole("reader"), link(1, 2), link(2, 3), grants(3, "read /a/*"), appoint(1, 1, 9), open(1), activate(1, 2))
}

// full returns a state with all roles, each of them senior to all with greater numbers.
func full(t *testing.T) *S {
	t.Helper()
	s := regular(t, api.MaxRoles, appoint(1, 1, 9), open(1), open(1), grants(63, "read /a/*"))
	for senior := 1; senior <= api.MaxRoles; senior++ {
		for junior := senior + 1; junior <= api.MaxRoles; junior++ {
			s = after(t, s, link(senior, junior))
		}
	}
	return after(t, s, activate(1, 63))
}

// ask returns a request.
func ask(session int, action, path string) Q { return Q{Session: session, Action: action, Path: path} }

// pick returns one element of a list.
func pick[X any](r *rand.Rand, l ...X) X { return l[r.Intn(len(l))] }

// random returns a state of some roles, on day 5, in which many things are granted.
func random(t *testing.T, r *rand.Rand) *S {
	t.Helper()
	p := state.New().Parts()
	p.Day = 5
	roles, users := r.Intn(9), r.Intn(4)
	for i := range users {
		p.Users, _, _ = p.Users.Add(fmt.Sprintf("u%d", i), api.MaxUsers)
	}
	for i := range roles {
		p.Roles, _, _ = p.Roles.Add(fmt.Sprintf("r%d", i), api.MaxRoles)
		if r.Intn(8) == 0 {
			p.Admin = p.Admin.With(i + 1)
		}
	}
	place, dense := r.Perm(roles), r.Float64()
	for senior := range roles {
		for junior := range roles {
			if place[senior] < place[junior] && p.Admin.Has(senior+1) == p.Admin.Has(junior+1) && r.Float64() < dense {
				p.Links, _ = p.Links.Link(senior+1, junior+1)
			}
		}
	}
	for range r.Intn(users*roles + 1) {
		if users*roles > 0 {
			p.Members, _ = p.Members.Assign(1+r.Intn(users), 1+r.Intn(roles), pick(r, 3, 4, 5, 6, 30000))
		}
	}
	for range r.Intn(12) {
		role := 1 + r.Intn(roles+1)
		if next, e := p.Grants.Grant(role, P{Action: pick(r, "read", "read", "write"), Path: pick(r, "/", "/a", "/a/b", "/a/b/c", "/d"), Deep: r.Intn(2) == 0}); e == api.OK && role <= roles && !p.Admin.Has(role) {
			p.Grants = next
		}
	}
	for range r.Intn(6) * min(users, 1) {
		p.Sessions, _, _ = p.Sessions.Open(1 + r.Intn(users))
		few := 1 + r.Intn(4)
		for role := 1; role <= roles; role++ {
			if !p.Admin.Has(role) && r.Intn(few) == 0 {
				p.Sessions, _ = p.Sessions.Activate(p.Sessions.Len(), role)
			}
		}
	}
	if p.Sessions.Len() > 2 && r.Intn(3) == 0 {
		p.Sessions, _ = p.Sessions.Close(2)
	}
	s, e := state.Of(p)
	if e != api.OK {
		t.Fatalf("random state: error %d", e)
	}
	return s
}

// requests has requests of all sessions, and such that are not valid.
var requests = func() []Q {
	var l []Q
	for _, n := range []int{math.MinInt, -1, 0, 1, 2, 3, 4, 5, 6, 64, 65, 4096, math.MaxInt} {
		for _, action := range []string{"read", "write", "sell", "by", "", "Read"} {
			for _, p := range []string{"/", "/a", "/a/b", "/a/b/c/d", "/d", "/ab", "", "a", "/a/", "/..", "/a/a/a/a/a/a/a/a/a"} {
				l = append(l, ask(n, action, p))
			}
		}
	}
	long := strings.Repeat("/a", 1<<16)
	return append(l, ask(1, "read", long), ask(1, long, "/a"))
}()

// valid reports whether a request is valid whatever the state is.
func valid(q Q) bool { return q.Session >= 1 && names.Valid(q.Action) && path.Valid(q.Path) }

// model is what a state tells, taken apart.
type model struct {
	parts state.Parts
	below map[int][]int // the juniors of links
}

func modelOf(s *S) model {
	m := model{s.Parts(), map[int][]int{}}
	for _, x := range m.parts.Links.Links() {
		m.below[x[0]] = append(m.below[x[0]], x[1])
	}
	return m
}

// explicit reports whether a user has an active assignment of a role.
func (m model) explicit(user, role int) bool {
	return slices.ContainsFunc(m.parts.Members.Entries(), func(e membership.Entry) bool {
		return e.User == user && e.Role == role && e.Until >= m.parts.Day
	})
}

// paths returns all paths of links that begin with a role.
func (m model) paths(role int) [][]int {
	l := [][]int{{role}}
	for _, junior := range m.below[role] {
		for _, p := range m.paths(junior) {
			l = append(l, append([]int{role}, p...))
		}
	}
	return l
}

// implied returns all roles that a role implies.
func (m model) implied(role int) bits.Set {
	var roles bits.Set
	for _, p := range m.paths(role) {
		roles = roles.With(p[len(p)-1])
	}
	return roles
}

// gives reports whether a role implies one with a grant that covers a request.
func (m model) gives(role int, action, path string) bool {
	for _, e := range m.parts.Grants.Entries() {
		if permission.Covers(e.Permission, action, path) && m.implied(role).Has(e.Role) {
			return true
		}
	}
	return false
}

// member reports whether a user is a member of a role.
func (m model) member(user, role int) bool {
	for e := 1; e <= m.parts.Roles.Len(); e++ {
		if m.explicit(user, e) && m.implied(e).Has(role) {
			return true
		}
	}
	return false
}

// chains returns all chains that justify a request, by the four sentences of the chapter.
func (m model) chains(q Q) []K {
	x, ok := m.parts.Sessions.Get(q.Session)
	if !ok || !valid(q) {
		return nil
	}
	var l []K
	for role := 1; role <= m.parts.Roles.Len(); role++ {
		if !m.explicit(x.User, role) {
			continue
		}
		for _, up := range m.paths(role) {
			turn := up[len(up)-1]
			if !x.Active.Has(turn) {
				continue
			}
			for _, down := range m.paths(turn) {
				for _, p := range m.parts.Grants.Of(down[len(down)-1]) {
					if permission.Covers(p, q.Action, q.Path) {
						l = append(l, K{User: x.User, Up: up, Down: down, Permission: p})
					}
				}
			}
		}
	}
	return l
}

// first reports whether a chain comes before another one.
func first(a, b K) bool {
	if n, o := len(a.Up)+len(a.Down)-2, len(b.Up)+len(b.Down)-2; n != o {
		return n < o
	}
	if c := slices.Compare(a.Up, b.Up); c != 0 {
		return c < 0
	}
	if c := slices.Compare(a.Down, b.Down); c != 0 {
		return c < 0
	}
	return permission.Compare(a.Permission, b.Permission) < 0
}

// same reports whether two chains have the same text and so the same fields.
func same(a, b K) bool { return fmt.Sprintf("%v", a) == fmt.Sprintf("%v", b) }
