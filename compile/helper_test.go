package compile_test

import (
	"fmt"
	"math"
	"math/rand"
	"slices"
	"strings"
	"testing"

	"arbac/api"
	"arbac/bits"
	"arbac/change"
	"arbac/compile"
	"arbac/grant"
	"arbac/permission"
	"arbac/state"
)

// C, T and S are short for changes, tables and states.
type (
	C = change.Change
	T = compile.Table
	S = state.State
)

func addUser(name string) C         { return C{Kind: change.AddUser, Name: name} }
func addRole(name string) C         { return C{Kind: change.AddRole, Name: name} }
func addAdmin(name string) C        { return C{Kind: change.AddAdmin, Name: name} }
func link(senior, junior int) C     { return C{Kind: change.Link, Role: senior, Other: junior} }
func unlink(senior, junior int) C   { return C{Kind: change.Unlink, Role: senior, Other: junior} }
func appoint(user, role, day int) C { return C{Kind: change.Appoint, User: user, Role: role, Day: day} }
func dismiss(user, role int) C      { return C{Kind: change.Dismiss, User: user, Role: role} }
func open(user int) C               { return C{Kind: change.Open, User: user} }
func closes(session int) C          { return C{Kind: change.Close, Session: session} }
func day(day int) C                 { return C{Kind: change.Day, Day: day} }
func setRules(text string) C        { return C{Kind: change.SetRules, Text: text} }
func setConstraints(text string) C  { return C{Kind: change.SetConstraints, Text: text} }

func activate(session, role int) C {
	return C{Kind: change.Activate, Session: session, Role: role}
}

func deactivate(session, role int) C {
	return C{Kind: change.Deactivate, Session: session, Role: role}
}

// may returns the permission with a text.
func may(text string) permission.Permission {
	p, e := permission.Parse(text)
	if e != api.OK {
		panic(text)
	}
	return p
}

func grants(role int, text string) C {
	return C{Kind: change.Grant, Role: role, Permission: may(text)}
}

func withdraw(role int, text string) C {
	return C{Kind: change.Withdraw, Role: role, Permission: may(text)}
}

// after returns the state after changes.
func after(t *testing.T, s *S, l ...C) *S {
	t.Helper()
	next, at, e := change.All(s, l)
	if e != api.OK {
		t.Fatalf("change %d, %s: error %d", at, change.Text(l[at]), e)
	}
	return next
}

// example returns the state of example 1 of the chapter.
func example(t *testing.T) *S {
	t.Helper()
	return after(t, state.New(), addUser("u1"), addRole("r1"), addRole("r2"), link(1, 2), appoint(1, 1, 9), grants(2, "read /a/*"), open(1), activate(1, 1))
}

// larger returns a state with something of everything: the users are 1 to 3, the roles 1 to 6, of which 5 and 6 are administrative.
func larger(t *testing.T) *S {
	t.Helper()
	return after(t, state.New(), addUser("ann"), addUser("bob"), addUser("cid"),
		addRole("clerk"), addRole("auditor"), addRole("reader"), addRole("teller"), addAdmin("hr"), addAdmin("boss"),
		link(1, 3), link(2, 3), link(6, 5), day(3),
		appoint(1, 1, 7), appoint(1, 2, 30), appoint(2, 4, 7), appoint(3, 6, 30000), appoint(3, 3, 8),
		grants(3, "read /a/*"), grants(4, "write /a/b"), grants(1, "read /c"), grants(2, "run /*"), grants(4, "run /a/b/*"), grants(3, "run /"),
		setRules("assign auditor by hr if clerk and not teller on 3-7,10 for 30; revoke clerk by boss;"),
		setConstraints("enforce static sod: count(clerk, teller) <= 1; declare users few: members(reader) < 2; enforce dynamic one: not (reader and teller);"),
		open(1), activate(1, 3), activate(1, 2), open(2), activate(2, 4), open(3))
}

// numbers has all numbers of users, roles and sessions, and others.
var numbers = func() []int {
	l := []int{math.MinInt, -1, 1000, 4096, math.MaxInt}
	for n := range 300 {
		l = append(l, n)
	}
	return l
}()

// objects has the paths on which random grants are made; deep ones, too, but for the last.
var objects = []string{"/", "/a", "/a/b", "/a/b/c", "/a/bb", "/ab", "/c", "/a/a/a/a/a/a/a", "/a/a/a/a/a/a/a/a"}

// requests has actions and paths: at all objects, and below and beside them, and such that are not valid.
var requests = func() [][2]string {
	paths := []string{"", "a", "/A", "//", "/a/", "/a//b", "/.", "/a/..", "/abcdefghijklm", "/*", "/a/*", "a/b", "/a/b/c/", " /a", "/a/a/a/a/a/a/a/a/a", strings.Repeat("/a", 1000)}
	for _, p := range objects {
		paths = append(paths, p, strings.TrimSuffix(p, "/")+"/x", strings.TrimSuffix(p, "/")+"/x/y", p+"x", strings.TrimSuffix(p, "/")+"/a")
	}
	var l [][2]string
	for _, action := range []string{"read", "write", "run", "sell", "", "by", "Read", "read ", "abcdefghijklm"} {
		for _, p := range paths {
			l = append(l, [2]string{action, p})
		}
	}
	return l
}()

// pick returns one element of a list.
func pick[X any](r *rand.Rand, l ...X) X { return l[r.Intn(len(l))] }

// someGrant returns a grant of a permission for one of the objects, or the withdrawal of one that is there.
func someGrant(r *rand.Rand, s *S) C {
	if l := s.Parts().Grants.Entries(); len(l) > 0 && r.Intn(3) == 0 {
		e := pick(r, l...)
		return C{Kind: change.Withdraw, Role: e.Role, Permission: e.Permission}
	}
	i := r.Intn(len(objects))
	p := permission.Permission{Action: pick(r, "read", "write"), Path: objects[i], Deep: i < len(objects)-1 && r.Intn(2) == 0}
	return C{Kind: change.Grant, Role: 1 + r.Intn(s.Roles()+1), Permission: p}
}

// someChange returns a change that a state may accept, or not.
func someChange(r *rand.Rand, s *S) C {
	user, role, other, n := 1+r.Intn(s.Users()+1), 1+r.Intn(s.Roles()+1), 1+r.Intn(s.Roles()+1), 1+r.Intn(5)
	x, _ := s.Parts().Sessions.Get(n)
	if l := s.Member(x.User).List(); len(l) > 0 && r.Intn(2) == 0 {
		return activate(n, pick(r, l...))
	}
	if l := x.Active.List(); len(l) > 0 && r.Intn(8) == 0 {
		return deactivate(n, pick(r, l...))
	}
	if l := s.Parts().Links.Links(); len(l) > 0 && r.Intn(20) == 0 {
		x := pick(r, l...)
		return unlink(x[0], x[1])
	}
	return pick(r,
		addUser(fmt.Sprintf("u%d", r.Intn(6))), addRole(fmt.Sprintf("r%d", r.Intn(9))), addAdmin(fmt.Sprintf("a%d", r.Intn(3))),
		link(role, other), link(role, other), link(role, other), someGrant(r, s), someGrant(r, s), someGrant(r, s), someGrant(r, s),
		appoint(user, role, s.Day()+r.Intn(9)), appoint(user, role, s.Day()+r.Intn(9)), appoint(user, role, s.Day()+r.Intn(9)), dismiss(user, role),
		open(user), open(user), closes(n), activate(n, role), deactivate(n, role), day(s.Day()+r.Intn(2)),
		setConstraints("enforce static c: true;"), setRules(""),
	)
}

// random returns the state after some changes.
func random(r *rand.Rand, n int) *S {
	s := state.New()
	for range n {
		if next, e := change.Apply(s, someChange(r, s)); e == api.OK {
			s = next
		}
	}
	return s
}

// granted returns the state after some changes of grants.
func granted(r *rand.Rand, s *S, n int) *S {
	for range n {
		if next, e := change.Apply(s, someGrant(r, s)); e == api.OK {
			s = next
		}
	}
	return s
}

// check compares all that a table tells with its state.
func check(t *testing.T, what string, table *T, s *S) {
	t.Helper()
	p := s.Parts()
	if table == nil || table.Day() != s.Day() {
		t.Fatalf("%s: no table, or not day %d", what, s.Day())
	}
	for _, n := range numbers {
		if !table.Member(n).Equal(s.Member(n)) {
			t.Fatalf("%s: Member(%d) is %s, not %s", what, n, table.Member(n).Text(), s.Member(n).Text())
		}
		var juniors bits.Set
		if n >= 1 && n <= s.Roles() {
			juniors = p.Links.Juniors(n)
		}
		if !table.Juniors(n).Equal(juniors) {
			t.Fatalf("%s: Juniors(%d) is %s, not %s", what, n, table.Juniors(n).Text(), juniors.Text())
		}
		if !table.Effective(n).Equal(s.Effective(n)) {
			t.Fatalf("%s: Effective(%d) is %s, not %s", what, n, table.Effective(n).Text(), s.Effective(n).Text())
		}
		x, open := p.Sessions.Get(n)
		if user, ok := table.User(n); user != x.User || ok != open {
			t.Fatalf("%s: User(%d) is %d, %v, not %d, %v", what, n, user, ok, x.User, open)
		}
	}
	for _, q := range requests {
		if got, want := table.Covering(q[0], q[1]), p.Grants.Covering(q[0], q[1]); !got.Equal(want) {
			t.Fatalf("%s: Covering(%q, %q) is %s, not %s, of %v", what, q[0], q[1], got.Text(), want.Text(), p.Grants.Entries())
		}
	}
}

// alike reports whether two tables answer all questions of check alike.
func alike(a, b *T) bool {
	if a.Day() != b.Day() {
		return false
	}
	for _, n := range numbers {
		user, open := a.User(n)
		userB, openB := b.User(n)
		if user != userB || open != openB || !a.Member(n).Equal(b.Member(n)) || !a.Juniors(n).Equal(b.Juniors(n)) || !a.Effective(n).Equal(b.Effective(n)) {
			return false
		}
	}
	return !slices.ContainsFunc(requests, func(q [2]string) bool {
		return !a.Covering(q[0], q[1]).Equal(b.Covering(q[0], q[1]))
	})
}

// read returns an equal state that is another one in memory.
func read(t *testing.T, s *S) *S {
	t.Helper()
	o, e := state.Read(s.Bytes())
	if e != api.OK {
		t.Fatalf("Read: error %d", e)
	}
	return o
}

// full returns a state with as much as there may be of all that tables tell of.
func full(t *testing.T) *S {
	t.Helper()
	s := state.New()
	for i := range api.MaxUsers {
		s = after(t, s, addUser(fmt.Sprintf("u%d", i)))
	}
	for i := range api.MaxRoles {
		s = after(t, s, addRole(fmt.Sprintf("r%d", i)))
	}
	for i := range api.MaxRoles - 1 {
		s = after(t, s, link(63-i, 62-i))
	}
	s = after(t, s, day(api.MaxDay), appoint(256, 63, api.MaxDay), appoint(255, 1, api.MaxDay))
	for n := 1; n <= api.MaxSessions; n++ {
		s = after(t, s, open(256), activate(n, min(n, 63)))
	}
	for i := range grant.Max {
		s = after(t, s, grants(63, fmt.Sprintf("read /a/b%d/c%d", i%40, i)))
	}
	return s
}
