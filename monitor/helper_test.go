package monitor_test

import (
	"fmt"
	"math"
	"math/rand"
	"strings"
	"testing"

	"arbac/api"
	"arbac/bits"
	"arbac/change"
	"arbac/hierarchy"
	"arbac/monitor"
	"arbac/names"
	"arbac/path"
	"arbac/permission"
	"arbac/state"
)

// C, D, Q and S are short for changes, decisions, requests and states.
type (
	C = change.Change
	D = monitor.Decision
	Q = monitor.Request
	S = state.State
)

func addUser(name string) C         { return C{Kind: change.AddUser, Name: name} }
func addRole(name string) C         { return C{Kind: change.AddRole, Name: name} }
func addAdmin(name string) C        { return C{Kind: change.AddAdmin, Name: name} }
func link(senior, junior int) C     { return C{Kind: change.Link, Role: senior, Other: junior} }
func appoint(user, role, day int) C { return C{Kind: change.Appoint, User: user, Role: role, Day: day} }
func dismiss(user, role int) C      { return C{Kind: change.Dismiss, User: user, Role: role} }
func open(user int) C               { return C{Kind: change.Open, User: user} }
func closes(session int) C          { return C{Kind: change.Close, Session: session} }
func day(day int) C                 { return C{Kind: change.Day, Day: day} }

func activate(session, role int) C {
	return C{Kind: change.Activate, Session: session, Role: role}
}

func grants(role int, text string) C {
	p, e := permission.Parse(text)
	if e != api.OK {
		panic(text)
	}
	return C{Kind: change.Grant, Role: role, Permission: p}
}

// after returns the state after changes.
func after(t *testing.T, s *S, l ...C) *S {
	t.Helper()
	next, at, e := change.All(s, l)
	if e != api.OK {
		t.Fatalf("change %d, %s: error %d", at, change.Text(l[at]), e)
	}
	return next
}

// example returns the state of example 1 of layer 24 on day 9.
func example(t *testing.T) *S {
	t.Helper()
	return after(t, state.New(), addUser("u1"), addRole("r1"), addRole("r2"), addAdmin("a1"), link(1, 2), day(9), appoint(1, 1, 9), grants(2, "read /a/*"), open(1), activate(1, 2))
}

// pick returns one element of a list.
func pick[X any](r *rand.Rand, l ...X) X { return l[r.Intn(len(l))] }

// someChange returns a change that a state may accept, or not.
func someChange(r *rand.Rand, s *S) C {
	user, role, n := 1+r.Intn(s.Users()+1), 1+r.Intn(s.Roles()+1), 1+r.Intn(5)
	if x, ok := s.Parts().Sessions.Get(n); ok && r.Intn(2) == 0 {
		if l := s.Member(x.User).List(); len(l) > 0 {
			return activate(n, pick(r, l...))
		}
	}
	p := permission.Permission{Action: pick(r, "read", "write"), Path: pick(r, "/", "/a", "/a/b", "/a/b/c", "/d"), Deep: r.Intn(2) == 0}
	return pick(r,
		addUser(fmt.Sprintf("u%d", r.Intn(6))), addRole(fmt.Sprintf("r%d", r.Intn(9))), addRole(fmt.Sprintf("r%d", r.Intn(9))), addAdmin("a"), link(role, 1+r.Intn(s.Roles()+1)), link(role, 1+r.Intn(s.Roles()+1)),
		C{Kind: change.Grant, Role: role, Permission: p}, C{Kind: change.Grant, Role: role, Permission: p},
		appoint(user, role, s.Day()+r.Intn(6)), appoint(user, role, s.Day()+r.Intn(20)), dismiss(user, role), open(user), open(user), closes(n), day(s.Day()+pick(r, 0, 0, 1)),
	)
}

// random returns the state after some changes.
func random(r *rand.Rand, n int) *S {
	s := state.New()
	for range n {
		if next, e := change.Apply(s, someChange(r, s)); e == api.OK {
			s = next
		}
	}
	return s
}

// requests has requests of all sessions, and such that are not valid.
var requests = func() []Q {
	var l []Q
	for _, n := range []int{math.MinInt, -1, 0, 1, 2, 3, 4, 5, 6, 63, 64, 65, 4096, math.MaxInt} {
		for _, action := range []string{"read", "write", "sell", "by", "", "Read"} {
			for _, p := range []string{"/", "/a", "/a/b", "/a/b/c", "/a/b/c/d", "/d", "/d/e", "/ab", "", "a", "/a/", "/..", "/a/a/a/a/a/a/a/a", "/a/a/a/a/a/a/a/a/a"} {
				l = append(l, Q{n, action, p})
			}
		}
	}
	long := strings.Repeat("/a", 1<<16)
	return append(l, Q{1, "read", long}, Q{1, long, "/a"}, Q{1, strings.Repeat("a", 1<<16), "/a"}, Q{1, "read", "/" + strings.Repeat("a", 1<<16)})
}()

// closure adds to roles all that they imply, link by link.
func closure(roles bits.Set, h *hierarchy.Hierarchy) bits.Set {
	for range 64 {
		for _, x := range h.Links() {
			if roles.Has(x[0]) {
				roles = roles.With(x[1])
			}
		}
	}
	return roles
}

// view is what a state tells of one session, by definition.
type view struct {
	user      int
	effective bits.Set
	parts     state.Parts
}

// look returns what a state tells of a session.
func look(s *S, n int) view {
	p := s.Parts()
	x, _ := p.Sessions.Get(n)
	var explicit bits.Set
	for _, e := range p.Members.Entries() {
		if e.User == x.User && e.Until >= p.Day {
			explicit = explicit.With(e.Role)
		}
	}
	return view{x.User, closure(x.Active.And(closure(explicit, p.Links)), p.Links), p}
}

// decide decides a request of the session by the sentences of the chapter.
func (v view) decide(q Q) D {
	if q.Session < 1 || !names.Valid(q.Action) || !path.Valid(q.Path) {
		return D{}
	}
	var roles bits.Set
	for _, e := range v.parts.Grants.Entries() {
		if v.effective.Has(e.Role) && permission.Covers(e.Permission, q.Action, q.Path) {
			roles = roles.With(e.Role)
		}
	}
	switch {
	case v.user == 0:
		return D{Reason: monitor.NoSession}
	case v.effective.Empty():
		return D{Reason: monitor.NoRole}
	case roles.Empty():
		return D{Reason: monitor.NoGrant}
	}
	return D{Granted: true, Reason: monitor.Granted, Roles: roles}
}

// same reports whether all fields of two decisions are equal.
func same(a, b D) bool {
	return a.Granted == b.Granted && a.Reason == b.Reason && a.Roles.Text() == b.Roles.Text()
}
