package explain_test

import (
	"math"
	"math/rand"
	"slices"
	"testing"

	"arbac/api"
	"arbac/change"
	"arbac/explain"
	"arbac/monitor"
	"arbac/state"
)

// P29.4, P29.5: example 2 of the chapter.
func TestMissingExamples(t *testing.T) {
	s := after(t, example(t), deactivate(1, 2), addUser("v"))
	q := ask(1, "read", "/a/b")
	if _, ok := explain.Why(s, q); ok || !slices.Equal(explain.Lacks(s, q), []int{1, 2, 3}) {
		t.Errorf("Lacks is %v", explain.Lacks(s, q))
	}
	if l := explain.Missing(s, 2, "read", "/a/b"); !slices.Equal(l, []int{3}) {
		t.Errorf("Missing is %v", l)
	}
	if l := explain.Missing(s, 1, "read", "/a/b"); len(l) > 0 {
		t.Errorf("Missing of who has it is %v", l)
	}
	// What is active already is not lacked, whether the request is granted or not.
	for active, want := range map[int][]int{1: {2, 3}, 2: {1, 3}, 3: {1, 2}} {
		if l := explain.Lacks(after(t, s, activate(1, active)), q); !slices.Equal(l, want) {
			t.Errorf("with role %d active Lacks is %v", active, l)
		}
	}
	if l := explain.Lacks(after(t, s, dismiss(1, 1)), q); len(l) > 0 {
		t.Errorf("Lacks of a user without roles is %v", l)
	}
	if l := explain.Lacks(after(t, s, day(10)), q); len(l) > 0 {
		t.Errorf("Lacks on the day after is %v", l)
	}
	if l := explain.Missing(after(t, s, day(10)), 1, "read", "/a/b"); !slices.Equal(l, []int{3}) {
		t.Errorf("Missing on the day after is %v", l)
	}
	// Roles that do not imply each other are all named; one with a grant above another one with a grant is not.
	both := after(t, s, addRole("other"), grants(4, "read /*"), grants(1, "read /a/b"))
	if l := explain.Missing(both, 2, "read", "/a/b"); !slices.Equal(l, []int{3, 4}) {
		t.Errorf("Missing is %v", l)
	}
	if l := explain.Missing(both, 2, "write", "/a/b"); len(l) > 0 {
		t.Errorf("Missing of what nobody may is %v", l)
	}
}

// P29.4: random states, by the definition; each of the roles alone would do.
func TestLacks(t *testing.T) {
	r := rand.New(rand.NewSource(294))
	found, granted := 0, 0
	for range 200 {
		s := random(t, r)
		m := modelOf(s)
		for _, q := range requests {
			var want []int
			if x, open := m.parts.Sessions.Get(q.Session); open && valid(q) {
				for role := 1; role <= s.Roles(); role++ {
					if !m.parts.Admin.Has(role) && m.member(x.User, role) && !x.Active.Has(role) && m.gives(role, q.Action, q.Path) {
						want = append(want, role)
					}
				}
			}
			l := explain.Lacks(s, q)
			if !slices.Equal(l, want) {
				t.Fatalf("Lacks(%+v) is %v, not %v", q, l, want)
			}
			if monitor.Spec(s, q).Granted && len(l) > 0 {
				granted++
			}
			for _, role := range l {
				found++
				if next := after(t, s, activate(q.Session, role)); !monitor.Spec(next, q).Granted {
					t.Fatalf("%+v is refused with role %d", q, role)
				}
			}
		}
	}
	if found < 500 || granted < 100 {
		t.Errorf("only %d roles, %d for granted requests", found, granted)
	}
}

// P29.5: random states, by the definition; each of the roles alone gives it.
func TestMissing(t *testing.T) {
	r := rand.New(rand.NewSource(295))
	found, left, has := 0, 0, 0
	for range 200 {
		s := random(t, r)
		m := modelOf(s)
		for _, q := range requests {
			var giving []int
			for role := 1; role <= s.Roles(); role++ {
				if !m.parts.Admin.Has(role) && m.gives(role, q.Action, q.Path) {
					giving = append(giving, role)
				}
			}
			for _, user := range []int{math.MinInt, -1, 0, 1, 2, 3, 4, 257, math.MaxInt} {
				var want []int
				for _, role := range giving {
					above := func(o int) bool { return o != role && m.implied(role).Has(o) }
					if user >= 1 && user <= s.Users() && !s.Has(user, q.Action, q.Path) && !slices.ContainsFunc(giving, above) {
						want = append(want, role)
					}
				}
				l := explain.Missing(s, user, q.Action, q.Path)
				if !slices.Equal(l, want) {
					t.Fatalf("Missing(%d, %q, %q) is %v, not %v", user, q.Action, q.Path, l, want)
				}
				if user >= 1 && user <= s.Users() && s.Has(user, q.Action, q.Path) {
					has++
				}
				left += len(giving) - len(want)
				for _, role := range l {
					found++
					next, e := change.Apply(s, appoint(user, role, s.Day()))
					if e != api.OK || !next.Has(user, q.Action, q.Path) {
						t.Fatalf("user %d does not have %q, %q with role %d", user, q.Action, q.Path, role)
					}
				}
			}
		}
	}
	if found < 500 || left < 500 || has < 500 {
		t.Errorf("only %d roles; %d left out; %d times the user has it", found, left, has)
	}
}

// P29.4, P29.5: no state, no valid request, nobody registered.
func TestNothingMissing(t *testing.T) {
	for _, s := range []*S{nil, new(S), state.New()} {
		for _, q := range requests {
			if len(explain.Lacks(s, q)) > 0 || len(explain.Missing(s, 1, q.Action, q.Path)) > 0 {
				t.Fatalf("%+v in a state without anything", q)
			}
		}
	}
	s := after(t, example(t), deactivate(1, 2), addUser("v"), grants(1, "read /*"))
	for _, q := range []Q{ask(0, "read", "/a"), ask(-1, "read", "/a"), ask(2, "read", "/a"), ask(65, "read", "/a"), ask(1, "by", "/a"), ask(1, "", "/a"), ask(1, "read", "/a/"), ask(1, "read", ""), ask(1, "write", "/a")} {
		if l := explain.Lacks(s, q); len(l) > 0 {
			t.Errorf("Lacks(%+v) is %v", q, l)
		}
	}
	for _, x := range []struct {
		user         int
		action, path string
	}{{0, "read", "/a"}, {-1, "read", "/a"}, {3, "read", "/a"}, {257, "read", "/a"}, {math.MaxInt, "read", "/a"}, {2, "by", "/a"}, {2, "", "/a"}, {2, "read", "/a/"}, {2, "read", ""}, {1, "read", "/a"}} {
		if l := explain.Missing(s, x.user, x.action, x.path); len(l) > 0 {
			t.Errorf("Missing(%d, %q, %q) is %v", x.user, x.action, x.path, l)
		}
	}
	// Administrative roles give nothing, and those of the user play no part.
	admin := after(t, s, addAdmin("hr"), addAdmin("boss"), link(5, 4), appoint(2, 5, 9), open(2))
	if l := explain.Lacks(admin, ask(2, "read", "/a")); len(l) > 0 {
		t.Errorf("Lacks of an administrator is %v", l)
	}
	if l := explain.Missing(admin, 2, "read", "/a/b"); !slices.Equal(l, []int{3}) {
		t.Errorf("Missing of an administrator is %v", l)
	}
}

// P29.4, P29.5: all roles at once.
func TestMissingOfFull(t *testing.T) {
	s := after(t, full(t), addUser("v"))
	var all []int
	for role := 1; role <= api.MaxRoles; role++ {
		all = append(all, role)
	}
	if l := explain.Lacks(s, ask(2, "read", "/a")); !slices.Equal(l, all) {
		t.Errorf("Lacks is %v", l)
	}
	if l := explain.Lacks(s, ask(1, "read", "/a")); !slices.Equal(l, all[:62]) {
		t.Errorf("Lacks is %v", l)
	}
	if l := explain.Missing(s, 2, "read", "/a"); !slices.Equal(l, []int{63}) {
		t.Errorf("Missing is %v", l)
	}
}
