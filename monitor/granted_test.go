package monitor_test

import (
	"math/rand"
	"testing"

	"arbac/api"
	"arbac/compile"
	"arbac/monitor"
	"arbac/state"
)

// more returns states in which one more role is active in a session, whether its user is a member or not.
func more(t *testing.T, s *S, session int) []*S {
	t.Helper()
	var l []*S
	for role := range s.Regular().All() {
		p := s.Parts()
		next, e := p.Sessions.Activate(session, role)
		if e != api.OK {
			continue
		}
		p.Sessions = next
		o, e := state.Of(p)
		if e != api.OK {
			t.Fatalf("role %d in session %d: error %d", role, session, e)
		}
		l = append(l, o)
	}
	return l
}

// P28.5: whatever is granted, the user has; more active roles never refuse it.
func TestGranted(t *testing.T) {
	r := rand.New(rand.NewSource(285))
	granted, further := 0, 0
	for range 60 {
		s := random(r, 300)
		table := compile.New(s)
		states := map[int][]*S{}
		for _, q := range requests {
			d := monitor.Decide(table, q)
			if !d.Granted {
				continue
			}
			granted++
			user, open := table.User(q.Session)
			if !open || !s.Has(user, q.Action, q.Path) || d.Roles.Empty() || !d.Roles.Within(s.Effective(q.Session)) || !d.Roles.Within(s.Member(user)) {
				t.Fatalf("%+v is granted to user %d with %s", q, user, d.Roles.Text())
			}
			if states[q.Session] == nil {
				states[q.Session] = more(t, s, q.Session)
			}
			for _, o := range states[q.Session] {
				further++
				if next := both(t, o, q); !next.Granted || !d.Roles.Within(next.Roles) {
					t.Fatalf("%+v: %+v with more active roles", q, next)
				}
			}
		}
	}
	if granted < 200 || further < 200 {
		t.Errorf("only %d requests are granted, %d with more active roles", granted, further)
	}
}

// P28.5: without an active assignment nothing is granted, whatever is active in the session.
func TestWithoutAssignment(t *testing.T) {
	r := rand.New(rand.NewSource(286))
	refused := 0
	for range 60 {
		s := after(t, random(r, 300), day(30000))
		table := compile.New(s)
		p := s.Parts()
		for _, q := range requests {
			x, open := p.Sessions.Get(q.Session)
			if !open || !s.Explicit(x.User).Empty() {
				continue
			}
			d := monitor.Decide(table, q)
			if d.Granted || monitor.Check(q) == api.OK && d.Reason != monitor.NoRole {
				t.Fatalf("%+v: %+v", q, d)
			}
			if !x.Active.Empty() {
				refused++
			}
		}
	}
	if refused < 200 {
		t.Errorf("only %d requests", refused)
	}
}
