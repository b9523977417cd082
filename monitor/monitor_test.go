package monitor_test

import (
	"math"
	"math/rand"
	"slices"
	"strings"
	"testing"

	"arbac/api"
	"arbac/bits"
	"arbac/compile"
	"arbac/monitor"
	"arbac/state"
)

// both returns the decision of a request by the table of a state, which must be that by the state itself.
func both(t *testing.T, s *S, q Q) D {
	t.Helper()
	d := monitor.Decide(compile.New(s), q)
	if e := monitor.Spec(s, q); !same(d, e) {
		t.Fatalf("%+v: Decide gives %+v, Spec %+v", q, d, e)
	}
	return d
}

// P28.1 to P28.3: the examples of the chapter, and those of DOC.md and layer 27 that are about requests.
func TestExamples(t *testing.T) {
	s := example(t)
	later := after(t, s, day(10))
	ann := after(t, state.New(), addUser("ann"), addRole("clerk"), addRole("reader"), link(1, 2), grants(2, "read /a/*"), appoint(1, 1, 5), open(1), activate(1, 2))
	chief := after(t, s, activate(1, 1))
	for _, x := range []struct {
		what   string
		s      *S
		q      Q
		reason monitor.Reason
		roles  string
	}{
		{"example 1", s, Q{1, "read", "/a/b"}, monitor.Granted, "{2}"}, {"example 1", s, Q{1, "read", "/b"}, monitor.NoGrant, "{}"}, {"example 1", s, Q{2, "read", "/a"}, monitor.NoSession, "{}"}, {"example 1", later, Q{1, "read", "/a/b"}, monitor.NoRole, "{}"},
		{"the object itself", s, Q{1, "read", "/a"}, monitor.Granted, "{2}"}, {"another action", s, Q{1, "write", "/a"}, monitor.NoGrant, "{}"}, {"above", s, Q{1, "read", "/"}, monitor.NoGrant, "{}"}, {"beside", s, Q{1, "read", "/ab"}, monitor.NoGrant, "{}"},
		{"session 64", s, Q{64, "read", "/a"}, monitor.NoSession, "{}"}, {"session 65", s, Q{65, "read", "/a"}, monitor.NoSession, "{}"}, {"the greatest number", s, Q{math.MaxInt, "read", "/a"}, monitor.NoSession, "{}"},
		{"example 2", s, Q{0, "read", "/a"}, 0, "{}"}, {"example 2", s, Q{1, "by", "/a"}, 0, "{}"}, {"example 2", s, Q{1, "read", "a"}, 0, "{}"},
		{"DOC.md, example 1", ann, Q{1, "read", "/a/b"}, monitor.Granted, "{2}"}, {"on the last day", after(t, ann, day(5)), Q{1, "read", "/a/b"}, monitor.Granted, "{2}"}, {"on the day after", after(t, ann, day(6)), Q{1, "read", "/a/b"}, monitor.NoRole, "{}"},
		{"a senior role", chief, Q{1, "read", "/a/b"}, monitor.Granted, "{2}"}, {"two roles", after(t, chief, grants(1, "read /a/b")), Q{1, "read", "/a/b"}, monitor.Granted, "{1 2}"}, {"revoked", after(t, chief, dismiss(1, 1)), Q{1, "read", "/a/b"}, monitor.NoRole, "{}"},
		{"closed", after(t, s, closes(1)), Q{1, "read", "/a/b"}, monitor.NoSession, "{}"}, {"without active roles", after(t, s, open(1)), Q{2, "read", "/a/b"}, monitor.NoRole, "{}"}, {"an empty state", state.New(), Q{1, "read", "/"}, monitor.NoSession, "{}"},
	} {
		want := D{Granted: x.reason == monitor.Granted, Reason: x.reason}
		if d := both(t, x.s, x.q); d.Granted != want.Granted || d.Reason != want.Reason || d.Roles.Text() != x.roles {
			t.Errorf("%s: %+v: %v, reason %d, %s", x.what, x.q, d.Granted, d.Reason, d.Roles.Text())
		}
	}
	if monitor.Granted != 1 || monitor.NoSession != 2 || monitor.NoRole != 3 || monitor.NoGrant != 4 {
		t.Error("numbers of reasons")
	}
}

// P28.1: each error, and the first of several.
func TestCheck(t *testing.T) {
	sessions := map[int]api.Errno{math.MinInt: api.ErrArg, -1: api.ErrArg, 0: api.ErrArg, 1: api.OK, 64: api.OK, 65: api.OK, math.MaxInt: api.OK}
	actions := map[string]api.Errno{
		"": api.ErrName, "by": api.ErrName, "Read": api.ErrName, "read ": api.ErrName, "2nd": api.ErrName, "abcdefghijklm": api.ErrName, "r-d": api.ErrName, strings.Repeat("a", 1<<20): api.ErrName,
		"read": api.OK, "a": api.OK, "abcdefghijkl": api.OK, "r_2": api.OK,
	}
	paths := map[string]api.Errno{
		"": api.ErrForm, "a": api.ErrForm, "//": api.ErrForm, "/a/": api.ErrForm, "/A": api.ErrForm, "/a/..": api.ErrForm, "/a/*": api.ErrForm, "/1/2/3/4/5/6/7/8/9": api.ErrForm, "/abcdefghijklm": api.ErrForm, strings.Repeat("/a", 1<<20): api.ErrForm,
		"/": api.OK, "/a": api.OK, "/a/b.c": api.OK, "/1/2/3/4/5/6/7/8": api.OK, "/abcdefghijkl": api.OK, "/by": api.OK,
	}
	table, s := compile.New(example(t)), example(t)
	for session, first := range sessions {
		for action, second := range actions {
			for p, third := range paths {
				want := first
				for _, e := range []api.Errno{second, third} {
					if want == api.OK {
						want = e
					}
				}
				q := Q{session, action, p}
				if e := monitor.Check(q); e != want {
					t.Errorf("Check(%d, %.20q, %.20q): error %d, not %d", session, action, p, e, want)
				}
				for _, d := range []D{monitor.Decide(table, q), monitor.Spec(s, q)} {
					if (d.Reason == 0) != (want != api.OK) || want != api.OK && !same(d, D{}) {
						t.Errorf("%d, %.20q, %.20q: %+v", session, action, p, d)
					}
				}
			}
		}
	}
}

// P28.2, P28.3: all requests in random states, compared with the sentences of the chapter.
func TestDecide(t *testing.T) {
	r := rand.New(rand.NewSource(282))
	seen := map[monitor.Reason]int{}
	for range 100 {
		s := random(r, r.Intn(300))
		table := compile.New(s)
		views := map[int]view{}
		for _, q := range requests {
			v, ok := views[q.Session]
			if !ok {
				v = look(s, q.Session)
				views[q.Session] = v
			}
			want := v.decide(q)
			if d := monitor.Decide(table, q); !same(d, want) {
				t.Fatalf("Decide(%+v): %+v, not %+v", q, d, want)
			}
			if d := monitor.Spec(s, q); !same(d, want) {
				t.Fatalf("Spec(%+v): %+v, not %+v", q, d, want)
			}
			seen[want.Reason]++
		}
	}
	for _, reason := range []monitor.Reason{0, monitor.Granted, monitor.NoSession, monitor.NoRole, monitor.NoGrant} {
		if seen[reason] < 500 {
			t.Errorf("reason %d: only %d times", reason, seen[reason])
		}
	}
}

// P28.3: nil tables and nil states.
func TestNil(t *testing.T) {
	for _, q := range requests {
		if d, e := monitor.Decide(nil, q), monitor.Spec(nil, q); !same(d, D{}) || !same(e, D{}) {
			t.Fatalf("%+v: %+v, %+v", q, d, e)
		}
	}
	l := monitor.Batch(nil, requests)
	if len(l) != len(requests) || slices.ContainsFunc(l, func(d D) bool { return !same(d, D{}) }) || !monitor.Allowed(nil, requests).Empty() {
		t.Error("Batch or Allowed of a nil table")
	}
	// The zero values are as the state at the beginning.
	for _, q := range requests {
		want := monitor.Spec(state.New(), q)
		if !same(monitor.Decide(new(compile.Table), q), want) || !same(monitor.Spec(new(S), q), want) || want.Granted {
			t.Fatalf("%+v in the state at the beginning", q)
		}
	}
}

// P28.4: lists of requests of any length.
func TestBatch(t *testing.T) {
	r := rand.New(rand.NewSource(284))
	granted := 0
	for range 40 {
		s := random(r, 300)
		table := compile.New(s)
		var l []Q
		for range r.Intn(200) {
			l = append(l, pick(r, requests...))
		}
		before := slices.Clone(l)
		decisions, allowed := monitor.Batch(table, l), monitor.Allowed(table, l)
		if len(decisions) != len(l) || !slices.Equal(l, before) {
			t.Fatalf("%d decisions of %d requests", len(decisions), len(l))
		}
		for i, q := range l {
			want := monitor.Spec(s, q)
			if !same(decisions[i], want) || allowed.Has(i) != want.Granted {
				t.Fatalf("request %d, %+v: %+v, %v, not %+v", i, q, decisions[i], allowed.Has(i), want)
			}
		}
		if g, ok := allowed.Greatest(); ok && g >= len(l) {
			t.Fatalf("%s of %d requests", allowed.Text(), len(l))
		}
		granted += allowed.Len()
	}
	if granted < 100 {
		t.Errorf("only %d granted requests", granted)
	}
	table := compile.New(example(t))
	for _, l := range [][]Q{nil, {}} {
		if len(monitor.Batch(table, l)) != 0 || !monitor.Allowed(table, l).Empty() {
			t.Error("decisions of no requests")
		}
	}
	yes, no := Q{1, "read", "/a/b"}, Q{1, "read", "/b"}
	if l := monitor.Batch(table, []Q{no, yes, yes, no, {}}); len(l) != 5 || l[0].Reason != monitor.NoGrant || !l[1].Granted || l[2].Roles.Text() != "{2}" || l[3].Granted || l[4].Reason != 0 {
		t.Errorf("%+v", l)
	}
	if got := monitor.Allowed(table, []Q{yes, no, yes, {}, yes}).Text(); got != "{0 2 4}" {
		t.Errorf("Allowed: %s", got)
	}
	// Numbers above bits.MaxMember are members of no set.
	for n, want := range map[int]int{64: 64, 4095: 4095, 4096: 4096, 5000: 4096} {
		if !monitor.Allowed(table, slices.Repeat([]Q{yes}, n)).Equal(bits.Below(want)) || len(monitor.Batch(table, slices.Repeat([]Q{yes}, n))) != n {
			t.Errorf("%d granted requests", n)
		}
	}
}

// P28.4: decisions that differ in one field.
func TestEqual(t *testing.T) {
	var l []D
	for _, granted := range []bool{false, true} {
		for _, reason := range []monitor.Reason{0, monitor.Granted, monitor.NoSession, monitor.NoRole, monitor.NoGrant, 255} {
			for _, roles := range []bits.Set{{}, bits.Of(1), bits.Of(2), bits.Of(1, 2), bits.Of(63), bits.Of(4095), bits.Of(1, 4095)} {
				l = append(l, D{granted, reason, roles})
			}
		}
	}
	for i, a := range l {
		for j, b := range l {
			if monitor.Equal(a, b) != (i == j) {
				t.Errorf("Equal(%+v, %+v) is %v", a, b, i != j)
			}
		}
		if !monitor.Equal(a, D{a.Granted, a.Reason, bits.Of(a.Roles.With(4000).Without(4000).List()...)}) {
			t.Errorf("%+v differs from itself", a)
		}
	}
}
