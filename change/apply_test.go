package change_test

import (
	"fmt"
	"slices"
	"strings"
	"testing"

	"arbac/api"
	"arbac/bits"
	"arbac/change"
	"arbac/days"
	"arbac/formula"
	"arbac/grant"
	"arbac/meaning"
	"arbac/names"
	"arbac/rule"
	"arbac/state"
	"arbac/syntax"
)

// staff returns a state on day 3: the users ann, bob and cid, the regular roles clerk (1), auditor (2), reader (3) and
// teller (4), and the administrative roles hr (5), boss (6) and aide (7). Clerk and auditor are senior to reader, boss to hr.
// Ann is a member of boss, bob of clerk until day 5; cid was one of teller until day 2.
func staff(t *testing.T) *state.State {
	t.Helper()
	return after(t, state.New(),
		addUser("ann"), addUser("bob"), addUser("cid"),
		addRole("clerk"), addRole("auditor"), addRole("reader"), addRole("teller"), addAdmin("hr"), addAdmin("boss"), addAdmin("aide"),
		link(1, 3), link(2, 3), link(6, 5),
		grants(3, read("/a")),
		appoint(1, 6, 30000), appoint(2, 1, 5), appoint(3, 4, 2),
		setRules("assign auditor by hr if clerk on 3-9 for 5; assign teller by hr if not reader; assign reader by aide; revoke clerk by hr on 3; revoke teller by boss;"),
		open(2), activate(1, 3), day(3))
}

// P25.2: the examples of the chapter.
func TestExamples(t *testing.T) {
	s := after(t, state.New(), addUser("u1"), addUser("u2"), addRole("r1"), addRole("r2"), addAdmin("a1"), appoint(1, 3, 9),
		setRules("assign r2 by a1 if r1 for 5;"), day(3))
	refused(t, s, assign(1, 2, 2, 7), api.ErrDenied)
	s = after(t, s, appoint(2, 1, 9))
	refused(t, s, assign(1, 2, 2, 8), api.ErrDenied)
	if s := after(t, s, assign(1, 2, 2, 7)); s.Explicit(2).Text() != "{1 2}" {
		t.Errorf("roles %s", s.Explicit(2).Text())
	}
	s = after(t, s, setConstraints("enforce static sod: count(r1, r2) <= 1;"))
	refused(t, s, assign(1, 2, 2, 7), api.ErrConflict)
}

// P25.2: the first of the errors of each kind, in the order of the table.
func TestErrors(t *testing.T) {
	s := staff(t)
	for _, c := range []struct {
		change C
		want   api.Errno
	}{
		{addUser(""), api.ErrName}, {addUser("by"), api.ErrName}, {addUser("Ann"), api.ErrName}, {addUser("ann"), api.ErrExists},
		{addRole("2nd"), api.ErrName}, {addRole("clerk"), api.ErrExists}, {addRole("hr"), api.ErrExists},
		{addAdmin("users"), api.ErrName}, {addAdmin("clerk"), api.ErrExists}, {addAdmin("hr"), api.ErrExists},

		{link(0, 1), api.ErrNone}, {link(1, 8), api.ErrNone}, {link(64, 64), api.ErrNone}, {link(5, 0), api.ErrNone}, {link(1000000, 1), api.ErrNone},
		{link(1, 5), api.ErrType}, {link(7, 4), api.ErrType}, {link(4, 4), api.ErrArg}, {link(5, 5), api.ErrArg},
		{link(1, 3), api.ErrExists}, {link(6, 5), api.ErrExists}, {link(3, 1), api.ErrCycle}, {link(5, 6), api.ErrCycle},

		{unlink(0, 1), api.ErrNone}, {unlink(1, 8), api.ErrNone}, {unlink(8, 8), api.ErrNone}, {unlink(1, 1000000), api.ErrNone},
		{unlink(1, 5), api.ErrType}, {unlink(7, 4), api.ErrType}, {unlink(4, 4), api.ErrArg}, {unlink(3, 1), api.ErrNone}, {unlink(1, 4), api.ErrNone}, {unlink(6, 7), api.ErrNone},

		{grants(0, read("/a")), api.ErrNone}, {grants(8, P{}), api.ErrNone}, {grants(1000000, read("/")), api.ErrNone},
		{grants(5, read("/a")), api.ErrType}, {grants(6, P{}), api.ErrType},
		{grants(1, P{}), api.ErrName}, {grants(1, may("by", "/", false)), api.ErrName}, {grants(1, read("a")), api.ErrForm}, {grants(1, read("")), api.ErrForm},
		{grants(1, may("read", strings.Repeat("/a", 8), true)), api.ErrForm}, {grants(3, read("/a")), api.ErrExists},

		{withdraw(0, read("/a")), api.ErrNone}, {withdraw(8, P{}), api.ErrNone}, {withdraw(5, read("/a")), api.ErrType}, {withdraw(6, P{}), api.ErrType},
		{withdraw(1, P{}), api.ErrNone}, {withdraw(1, read("/a")), api.ErrNone}, {withdraw(3, read("/b")), api.ErrNone}, {withdraw(3, may("read", "/a", true)), api.ErrNone},

		{appoint(0, 1, 9), api.ErrNone}, {appoint(4, 1, 9), api.ErrNone}, {appoint(1, 0, 9), api.ErrNone}, {appoint(1, 8, 9), api.ErrNone}, {appoint(4, 8, 1), api.ErrNone},
		{appoint(257, 1, 2), api.ErrNone}, {appoint(1, 64, 30001), api.ErrNone}, {appoint(1, 1, 2), api.ErrRange}, {appoint(1, 6, 0), api.ErrRange}, {appoint(1, 1, 30001), api.ErrRange}, {appoint(1, 1, 1000000), api.ErrRange},

		{dismiss(0, 1), api.ErrNone}, {dismiss(4, 1), api.ErrNone}, {dismiss(2, 0), api.ErrNone}, {dismiss(2, 8), api.ErrNone}, {dismiss(2, 3), api.ErrNone}, {dismiss(1, 5), api.ErrNone}, {dismiss(1000000, 1000000), api.ErrNone},

		{setRules("assign"), api.ErrSyntax}, {setRules("assign clerk by teller;"), api.ErrType}, {setRules("assign nobody by hr;"), api.ErrName},
		{setRules("assign clerk by hr if reader and not reader;"), api.ErrExists}, {setRules("assign clerk by hr on 9-3;"), api.ErrRange}, {setRules("%"), api.ErrSyntax},
		{setRules(strings.Repeat("revoke clerk by hr;", 65)), api.ErrLimit},

		{setConstraints("enforce"), api.ErrSyntax}, {setConstraints("enforce static s: thirteen_long;"), api.ErrName}, {setConstraints("declare static s: count(clerk, clerk) < 1;"), api.ErrExists},
		{setConstraints("declare static s: clerk; declare users s: true;"), api.ErrExists}, {setConstraints("declare static s: nobody;"), api.ErrName}, {setConstraints("declare static s: hr;"), api.ErrName},
		{setConstraints("declare users s: members(hr) > 0;"), api.ErrName}, {setConstraints("declare users s: clerk;"), api.ErrType}, {setConstraints("declare static s: clerk + 1 < 2;"), api.ErrType},
		{setConstraints("declare static s: nobody; declare"), api.ErrSyntax}, {setConstraints(many("declare static c%d: clerk;", 33)), api.ErrLimit},

		{assign(0, 2, 2, 4), api.ErrNone}, {assign(4, 2, 2, 4), api.ErrNone}, {assign(1, 0, 2, 4), api.ErrNone}, {assign(1, 4, 2, 4), api.ErrNone}, {assign(1, 2, 0, 4), api.ErrNone},
		{assign(1, 2, 8, 4), api.ErrNone}, {assign(4, 1, 5, 4), api.ErrNone}, {assign(1, 4, 5, 2), api.ErrNone}, {assign(1, 2, 1000000, 2), api.ErrNone}, {assign(0, 2, 2, 2), api.ErrNone},
		{assign(1, 2, 5, 4), api.ErrType}, {assign(1, 2, 7, 2), api.ErrType}, {assign(2, 2, 6, 4), api.ErrType},
		{assign(1, 2, 2, 2), api.ErrRange}, {assign(2, 2, 2, 30001), api.ErrRange}, {assign(3, 1, 1, 0), api.ErrRange},
		{assign(2, 2, 2, 4), api.ErrDenied}, {assign(1, 2, 2, 8), api.ErrDenied}, {assign(1, 3, 2, 4), api.ErrDenied}, {assign(1, 2, 4, 4), api.ErrDenied}, {assign(1, 3, 3, 4), api.ErrDenied}, {assign(1, 3, 1, 4), api.ErrDenied},

		{revoke(0, 2, 1), api.ErrNone}, {revoke(4, 2, 1), api.ErrNone}, {revoke(1, 0, 1), api.ErrNone}, {revoke(1, 4, 1), api.ErrNone}, {revoke(1, 2, 0), api.ErrNone}, {revoke(1, 2, 8), api.ErrNone}, {revoke(1, 4, 6), api.ErrNone},
		{revoke(1, 1, 6), api.ErrType}, {revoke(1, 2, 7), api.ErrType}, {revoke(1, 2, 3), api.ErrNone}, {revoke(1, 3, 4), api.ErrNone}, {revoke(2, 3, 1), api.ErrNone}, {revoke(3, 2, 1), api.ErrDenied}, {revoke(2, 2, 1), api.ErrDenied},

		{open(0), api.ErrNone}, {open(4), api.ErrNone}, {open(257), api.ErrNone}, {closes(0), api.ErrNone}, {closes(2), api.ErrNone}, {closes(65), api.ErrNone}, {closes(1000000), api.ErrNone},

		{activate(0, 1), api.ErrNone}, {activate(2, 1), api.ErrNone}, {activate(1, 0), api.ErrNone}, {activate(1, 8), api.ErrNone}, {activate(2, 5), api.ErrNone}, {activate(1, 1000000), api.ErrNone}, {activate(1000000, 1), api.ErrNone},
		{activate(1, 5), api.ErrType}, {activate(1, 6), api.ErrType}, {activate(1, 2), api.ErrDenied}, {activate(1, 4), api.ErrDenied}, {activate(1, 3), api.ErrExists},

		{deactivate(0, 3), api.ErrNone}, {deactivate(2, 3), api.ErrNone}, {deactivate(1, 1), api.ErrNone}, {deactivate(1, 0), api.ErrNone}, {deactivate(1, 8), api.ErrNone}, {deactivate(1, 64), api.ErrNone}, {deactivate(1, 1000000), api.ErrNone},

		{day(2), api.ErrRange}, {day(0), api.ErrRange}, {day(30001), api.ErrRange}, {day(1000000), api.ErrRange},
	} {
		refused(t, s, c.change, c.want)
	}
}

// many returns a source with so many numbered pieces.
func many(piece string, n int) string {
	var b strings.Builder
	for i := range n {
		fmt.Fprintf(&b, piece, i)
	}
	return b.String()
}

// P25.2: nil states, and changes that Check refuses, come first.
func TestFirstErrors(t *testing.T) {
	for _, c := range []C{{}, day(4), addUser("by"), {Kind: 19}, day(-1)} {
		if s, e := change.Apply(nil, c); s != nil || e != api.ErrArg {
			t.Errorf("Apply(nil, %v): error %d", c, e)
		}
	}
	s := staff(t)
	for _, c := range []struct {
		change C
		want   api.Errno
	}{
		{C{}, api.ErrArg}, {C{Kind: 19}, api.ErrArg}, {C{Kind: 255, Day: 4}, api.ErrArg},
		{C{Kind: change.AddUser, Name: "by", User: 1}, api.ErrForm}, {C{Kind: change.Day, Day: 4, By: 1}, api.ErrForm}, {C{Kind: change.Appoint, User: 1, Role: 1, Day: 4, By: 1}, api.ErrForm},
		{C{Kind: change.Close, Session: 1, User: 2}, api.ErrForm}, {C{Kind: change.Link, Role: 1, Other: 4, Permission: P{Deep: true}}, api.ErrForm}, {C{Kind: change.Revoke, By: 1, User: 2, Role: 1, Day: 3}, api.ErrForm},
		{day(-1), api.ErrRange}, {day(1000001), api.ErrRange}, {link(-1, 1), api.ErrRange}, {assign(1, 2, 2, -1), api.ErrRange},
		{addUser("abcdefghijklm"), api.ErrLimit}, {addUser("Thirteen BIG."), api.ErrLimit}, {grants(9, P{Action: "abcdefghijklm"}), api.ErrLimit}, {setRules(strings.Repeat(" ", 8001)), api.ErrLimit}, {setConstraints(strings.Repeat("%", 8001)), api.ErrLimit},
	} {
		refused(t, s, c.change, c.want)
	}
}

// P25.2: what there is at most.
func TestFull(t *testing.T) {
	s := staff(t)
	for i := s.Users(); i < api.MaxUsers; i++ {
		s = after(t, s, addUser(fmt.Sprintf("u%d", i)))
	}
	for i := s.Roles(); i < api.MaxRoles-1; i++ {
		s = after(t, s, addRole(fmt.Sprintf("r%d", i)))
	}
	if s := after(t, s, addAdmin("last")); !s.Admin().Has(63) {
		t.Errorf("administrative roles %s", s.Admin().Text())
	}
	s = after(t, s, addRole("r62"))
	for s.Parts().Sessions.Len() < api.MaxSessions {
		s = after(t, s, open(256))
	}
	for i := s.Parts().Grants.Len(); i < grant.Max; i++ {
		s = after(t, s, grants(63, read(fmt.Sprintf("/n%d", i))))
	}
	for _, c := range []struct {
		change C
		want   api.Errno
	}{
		{addUser("more"), api.ErrFull}, {addUser("ann"), api.ErrExists}, {addRole("more"), api.ErrFull}, {addAdmin("more"), api.ErrFull}, {addAdmin("by"), api.ErrName},
		{open(256), api.ErrFull}, {open(257), api.ErrNone}, {grants(63, read("/")), api.ErrFull}, {grants(3, read("/a")), api.ErrExists}, {grants(63, P{}), api.ErrName}, {appoint(257, 63, 3), api.ErrNone}, {appoint(256, 64, 3), api.ErrNone},
	} {
		refused(t, s, c.change, c.want)
	}
	s = after(t, s, appoint(256, 63, 30000), activate(64, 63), link(63, 62), day(30000), setRules(strings.Repeat("assign clerk by hr;", 64)), setConstraints(many("declare static c%d: r62;", 32)), closes(9), open(1))
	if p := s.Parts(); p.Sessions.Of(1)[0] != 9 || len(p.Rules) != 64 || len(p.Constraints) != 32 || s.Effective(64).Text() != "{62 63}" {
		t.Errorf("state %v", p)
	}
	if read, e := state.Read(s.Bytes()); e != api.OK || !read.Equal(s) {
		t.Errorf("Read: error %d", e)
	}
}

// must returns a value without an error.
func must[T any](x T, e api.Errno) T {
	if e != api.OK {
		panic(e)
	}
	return x
}

// P25.2: each kind changes what it says, and nothing else.
func TestEffects(t *testing.T) {
	type parts = state.Parts
	name := func(n *names.Table, s string) *names.Table { return must(names.Of(append(n.Names(), s), 256)) }
	deep := may("write", "/", true)
	s := after(t, staff(t), appoint(3, 2, 7), appoint(1, 4, 3), grants(2, deep))
	for _, c := range []struct {
		change C
		do     func(p *parts)
	}{
		{addUser("dora"), func(p *parts) { p.Users = name(p.Users, "dora") }},
		{addUser("clerk"), func(p *parts) { p.Users = name(p.Users, "clerk") }},
		{addRole("ann"), func(p *parts) { p.Roles = name(p.Roles, "ann") }},
		{addAdmin("ann"), func(p *parts) { p.Roles, p.Admin = name(p.Roles, "ann"), bits.Of(5, 6, 7, 8) }},
		{link(3, 4), func(p *parts) { p.Links = must(p.Links.Link(3, 4)) }},
		{link(7, 5), func(p *parts) { p.Links = must(p.Links.Link(7, 5)) }},
		{unlink(2, 3), func(p *parts) { p.Links = must(p.Links.Unlink(2, 3)) }},
		{unlink(6, 5), func(p *parts) { p.Links = must(p.Links.Unlink(6, 5)) }},
		{grants(3, may("read", "/a", true)), func(p *parts) { p.Grants = must(p.Grants.Grant(3, may("read", "/a", true))) }},
		{grants(1, read("/a")), func(p *parts) { p.Grants = must(p.Grants.Grant(1, read("/a"))) }},
		{withdraw(2, deep), func(p *parts) { p.Grants = must(p.Grants.Withdraw(2, deep)) }},
		{appoint(3, 7, 3), func(p *parts) { p.Members = must(p.Members.Assign(3, 7, 3)) }},
		{appoint(3, 1, 30000), func(p *parts) { p.Members = must(p.Members.Assign(3, 1, 30000)) }},
		{appoint(3, 2, 6), func(p *parts) { p.Members = must(p.Members.Assign(3, 2, 6)) }},
		{appoint(3, 4, 3), func(p *parts) { p.Members = must(p.Members.Assign(3, 4, 3)) }},
		{dismiss(3, 2), func(p *parts) { p.Members = must(p.Members.Revoke(3, 2)) }},
		{dismiss(3, 4), func(p *parts) { p.Members = must(p.Members.Revoke(3, 4)) }},
		{dismiss(1, 6), func(p *parts) { p.Members = must(p.Members.Revoke(1, 6)) }},
		{setRules(""), func(p *parts) { p.Rules = nil }},
		{setRules("# none\n"), func(p *parts) { p.Rules = nil }},
		{setRules("revoke reader by aide on 5;"), func(p *parts) {
			p.Rules = []rule.Rule{{Revoke: true, Admin: 7, Target: 3, When: must(days.Of(days.Span{From: 5, To: 5}))}}
		}},
		{setConstraints("declare users few: 0 < 1;"), func(p *parts) {
			zero, one := formula.Formula{Op: syntax.Number}, formula.Formula{Op: syntax.Number, N: 1}
			p.Constraints = []formula.Constraint{{Kind: syntax.Users, Name: "few", Formula: formula.Formula{Op: syntax.Lt, Args: []formula.Formula{zero, one}}}}
		}},
		{setConstraints("enforce static one: teller;"), func(p *parts) {
			p.Constraints = []formula.Constraint{{Enforce: true, Kind: syntax.Static, Name: "one", Formula: formula.Formula{Op: syntax.Role, Roles: []int{4}}}}
		}},
		{assign(1, 2, 2, 7), func(p *parts) { p.Members = must(p.Members.Assign(2, 2, 7)) }},
		{assign(1, 3, 4, 30000), nil}, // cid is a reader through auditor
		{assign(1, 1, 4, 30000), func(p *parts) { p.Members = must(p.Members.Assign(1, 4, 30000)) }},
		{assign(1, 1, 4, 3), func(p *parts) {}},
		{revoke(1, 2, 1), func(p *parts) { p.Members = must(p.Members.Revoke(2, 1)) }},
		{revoke(1, 1, 4), func(p *parts) { p.Members = must(p.Members.Revoke(1, 4)) }},
		{open(3), func(p *parts) { p.Sessions, _, _ = p.Sessions.Open(3) }},
		{closes(1), func(p *parts) { p.Sessions = must(p.Sessions.Close(1)) }},
		{activate(1, 1), func(p *parts) { p.Sessions = must(p.Sessions.Activate(1, 1)) }},
		{deactivate(1, 3), func(p *parts) { p.Sessions = must(p.Sessions.Deactivate(1, 3)) }},
		{day(3), func(p *parts) {}},
		{day(4), func(p *parts) { p.Day = 4 }},
		{day(30000), func(p *parts) { p.Day = 30000 }},
	} {
		if c.do == nil {
			refused(t, s, c.change, api.ErrDenied)
			continue
		}
		p := s.Parts()
		c.do(&p)
		if got := after(t, s, c.change); !got.Equal(must(state.Of(p))) {
			t.Errorf("%s: %+v, not %+v", change.Text(c.change), got.Parts(), p)
		}
	}
}

// P25.2: rules look at the member roles of both users, on the day, and the last day.
func TestRules(t *testing.T) {
	s := staff(t)
	for _, c := range []struct {
		before []C
		change C
		want   api.Errno
	}{
		{nil, assign(1, 2, 2, 3), api.OK}, {nil, assign(1, 2, 2, 8), api.ErrDenied},
		// The administrator: through a senior role, by the role itself, no longer, not any more.
		{[]C{unlink(6, 5)}, assign(1, 2, 2, 3), api.ErrDenied},
		{[]C{appoint(3, 5, 3)}, assign(3, 2, 2, 3), api.OK},
		{[]C{appoint(3, 5, 3), day(4)}, assign(3, 2, 2, 4), api.ErrDenied},
		{[]C{dismiss(1, 6)}, assign(1, 2, 2, 3), api.ErrDenied},
		{[]C{appoint(1, 7, 3), dismiss(1, 6)}, assign(1, 2, 2, 3), api.ErrDenied},
		// The user: by the role itself, no longer, through a senior role; administrators for themselves.
		{[]C{day(5)}, assign(1, 2, 2, 9), api.OK},
		{[]C{day(6)}, assign(1, 2, 2, 6), api.ErrDenied},
		{[]C{dismiss(2, 1), link(4, 1), appoint(2, 4, 3)}, assign(1, 2, 2, 3), api.OK},
		{[]C{appoint(1, 1, 3)}, assign(1, 1, 2, 3), api.OK},
		{[]C{appoint(1, 1, 3)}, assign(1, 3, 2, 3), api.ErrDenied},
		{nil, assign(1, 3, 4, 3), api.OK},
		{[]C{appoint(3, 2, 3)}, assign(1, 3, 4, 3), api.ErrDenied},
		{[]C{appoint(3, 2, 3), day(4)}, assign(1, 3, 4, 4), api.OK},
		// The days of the rule; any later rule.
		{[]C{appoint(2, 1, 30), day(9)}, assign(1, 2, 2, 13), api.OK},
		{[]C{appoint(2, 1, 30), day(10)}, assign(1, 2, 2, 10), api.ErrDenied},
		{[]C{setRules("assign auditor by aide; revoke auditor by hr; assign auditor by hr if teller; assign auditor by hr on 3;")}, assign(1, 2, 2, 30000), api.OK},
		{[]C{setRules("assign auditor by aide; revoke auditor by hr; assign auditor by hr if teller; assign auditor by hr on 4;")}, assign(1, 2, 2, 3), api.ErrDenied},
		// Revocations.
		{nil, revoke(1, 2, 1), api.OK},
		{[]C{day(4)}, revoke(1, 2, 1), api.ErrDenied},
		{[]C{day(6)}, revoke(1, 2, 1), api.ErrNone},
		{[]C{appoint(3, 4, 3)}, revoke(1, 3, 4), api.OK},
		{[]C{appoint(3, 4, 3), appoint(2, 5, 9)}, revoke(2, 3, 4), api.ErrDenied},
		{[]C{setRules("assign clerk by hr;")}, revoke(1, 2, 1), api.ErrDenied},
		{[]C{setRules("revoke clerk by aide; revoke clerk by boss;")}, revoke(1, 2, 1), api.OK},
		{[]C{setRules("revoke clerk by hr;")}, assign(1, 2, 1, 4), api.ErrDenied},
	} {
		s := after(t, s, c.before...)
		next, e := change.Apply(s, c.change)
		if e != c.want || (next == nil) != (e != api.OK) {
			t.Errorf("%s after %+v: error %d, not %d", change.Text(c.change), c.before, e, c.want)
		}
	}
}

// P25.2: enforced constraints, and those that a kind does not look at.
func TestConflicts(t *testing.T) {
	s := after(t, staff(t), appoint(3, 3, 3))
	for _, c := range []struct {
		constraints string
		before      []C
		change      C
		want        api.Errno
	}{
		// Each kind that changes who is a member of what, with a static and with a users constraint.
		{"enforce static c: not (clerk and teller);", nil, link(1, 4), api.ErrConflict},
		{"enforce users c: members(teller) == 0;", nil, link(3, 4), api.ErrConflict},
		{"enforce static c: clerk -> reader;", nil, unlink(1, 3), api.ErrConflict},
		{"enforce users c: members(reader) >= 2;", nil, unlink(1, 3), api.ErrConflict},
		{"enforce static c: count(clerk, auditor) <= 1;", nil, appoint(2, 2, 3), api.ErrConflict},
		{"enforce users c: members(auditor) < 1;", nil, appoint(2, 2, 3), api.ErrConflict},
		{"enforce static c: clerk or not reader;", []C{unlink(1, 3), appoint(2, 3, 9)}, dismiss(2, 1), api.ErrConflict},
		{"enforce users c: members(clerk) >= 1;", nil, dismiss(2, 1), api.ErrConflict},
		{"enforce static c: not (clerk and auditor);", nil, assign(1, 2, 2, 3), api.ErrConflict},
		{"enforce users c: members(auditor) + members(clerk) <= 1;", nil, assign(1, 2, 2, 3), api.ErrConflict},
		{"enforce static c: clerk or not auditor;", []C{appoint(2, 2, 9)}, revoke(1, 2, 1), api.ErrConflict},
		{"enforce users c: members(clerk) == 1;", nil, revoke(1, 2, 1), api.ErrConflict},
		// Constraints that hold, that are only declared, or that are behind others.
		{"enforce static c: count(clerk, auditor) <= 2;", nil, assign(1, 2, 2, 3), api.OK},
		{"declare static c: not (clerk and auditor);", nil, assign(1, 2, 2, 3), api.OK},
		{"declare users c: members(auditor) < 1;", nil, appoint(2, 2, 3), api.OK},
		{"declare static a: not auditor; enforce users b: true; enforce static c: not auditor;", nil, appoint(2, 2, 3), api.ErrConflict},
		// What was violated before may stay so, but not get worse.
		{"enforce static c: not clerk;", nil, link(1, 4), api.OK},
		{"enforce static c: not clerk;", nil, appoint(2, 1, 9), api.OK},
		{"enforce static c: not clerk;", nil, appoint(3, 1, 9), api.ErrConflict},
		{"enforce static a: not clerk; enforce static b: clerk -> not teller;", nil, link(1, 4), api.ErrConflict},
		{"enforce users c: members(clerk) == 0;", nil, appoint(3, 1, 9), api.OK},
		// An assignment that does not change the roles of the day; one that has ended.
		{"enforce static c: not (clerk and auditor);", nil, appoint(2, 1, 3), api.OK},
		{"enforce static c: not auditor;", nil, dismiss(3, 4), api.OK},
		{"enforce static c: not teller;", nil, appoint(3, 4, 3), api.ErrConflict},
		// Other users, and administrative roles, do not matter.
		{"enforce static c: not (clerk and auditor);", nil, appoint(3, 2, 3), api.OK},
		{"enforce static c: clerk or not reader;", nil, appoint(3, 6, 3), api.OK},
		// Dynamic constraints are looked at when a role gets active, and only then.
		{"enforce dynamic c: not (reader and clerk);", nil, activate(1, 1), api.ErrConflict},
		{"declare dynamic c: not (reader and clerk);", nil, activate(1, 1), api.OK},
		{"enforce dynamic c: not (reader and auditor);", nil, activate(1, 1), api.OK},
		{"enforce dynamic c: not reader;", nil, activate(1, 1), api.OK},
		{"declare dynamic a: not clerk; enforce dynamic b: not reader; enforce dynamic c: count(reader, clerk) == 1;", nil, activate(1, 1), api.ErrConflict},
		{"enforce dynamic c: not reader;", []C{open(2)}, activate(2, 1), api.ErrConflict},
		{"enforce dynamic c: not auditor;", nil, link(3, 2), api.ErrCycle},
		{"enforce dynamic c: not teller;", nil, link(3, 4), api.OK},
		{"enforce dynamic c: reader;", nil, deactivate(1, 3), api.OK},
		{"enforce dynamic c: reader;", nil, revoke(1, 2, 1), api.OK},
		{"enforce dynamic c: reader;", nil, dismiss(2, 1), api.OK},
		{"enforce dynamic c: reader;", nil, unlink(1, 3), api.OK},
		{"enforce dynamic c: reader;", nil, open(3), api.OK},
		{"enforce dynamic c: reader;", nil, closes(1), api.OK},
		// An active role that is no member role any more has no effect.
		{"enforce dynamic c: not (clerk and auditor);", []C{appoint(2, 2, 3), activate(1, 2), day(4)}, activate(1, 1), api.OK},
		{"enforce dynamic c: not (clerk and auditor);", []C{appoint(2, 2, 3), activate(1, 2)}, activate(1, 1), api.ErrConflict},
		// Static and users constraints are not looked at then.
		{"enforce static c: not clerk; enforce users d: members(clerk) == 0;", nil, activate(1, 1), api.OK},
		// Kinds that look at no constraint.
		{"enforce static c: teller or clerk;", nil, addUser("dora"), api.OK},
		{"enforce static c: not clerk;", nil, addRole("dora"), api.OK},
		{"enforce static c: clerk; enforce users d: members(clerk) == 1;", nil, day(6), api.OK},
		{"enforce static c: true;", nil, setConstraints("enforce static c: false; enforce users d: false; enforce dynamic e: false;"), api.OK},
		{"enforce static c: false; enforce users d: false; enforce dynamic e: false;", nil, grants(1, read("/b")), api.OK},
		{"enforce static c: false; enforce users d: false; enforce dynamic e: false;", nil, link(1, 4), api.OK},
		{"enforce static c: false; enforce users d: false; enforce dynamic e: false;", nil, activate(1, 1), api.OK},
		// The last of the errors.
		{"enforce static c: not (clerk and auditor);", nil, assign(1, 2, 2, 8), api.ErrDenied},
		{"enforce static c: not (clerk and auditor);", nil, appoint(2, 2, 2), api.ErrRange},
		{"enforce dynamic c: not (reader and auditor);", nil, activate(1, 2), api.ErrDenied},
	} {
		s := after(t, s, setConstraints(c.constraints))
		s = after(t, s, c.before...)
		next, e := change.Apply(s, c.change)
		if e != c.want || (next == nil) != (e != api.OK) {
			t.Errorf("%s, %s: error %d, not %d", c.constraints, change.Text(c.change), e, c.want)
		}
	}
}

// P25.3
func TestAll(t *testing.T) {
	s := staff(t)
	l := []C{appoint(3, 1, 4), assign(1, 3, 2, 4), day(4), revoke(1, 2, 1), open(3), activate(2, 3)}
	for n := range len(l) + 1 {
		want, before := s, slices.Clone(l)
		e := api.OK
		for _, c := range l[:n] {
			if want, e = change.Apply(want, c); e != api.OK {
				break
			}
		}
		got, at, err := change.All(s, l[:n])
		if err != e || e == api.OK && (at != 0 || !got.Equal(want)) || e != api.OK && (got != nil || at != 3) {
			t.Errorf("All of %d changes: %d, error %d", n, at, err)
		}
		if !slices.Equal(l, before) {
			t.Error("All has changed its argument")
		}
	}
	for _, c := range []struct {
		s    *state.State
		l    []C
		at   int
		want api.Errno
	}{
		{nil, nil, 0, api.ErrArg}, {nil, l, 0, api.ErrArg}, {nil, []C{day(-1)}, 0, api.ErrArg},
		{s, []C{{}}, 0, api.ErrArg}, {s, []C{day(2), addUser("by")}, 0, api.ErrRange}, {s, []C{day(4), day(4), day(3)}, 2, api.ErrRange},
		{s, []C{addUser("dora"), addUser("dora"), {}}, 1, api.ErrExists}, {s, []C{open(1), closes(2), closes(2)}, 2, api.ErrNone},
		{s, []C{setConstraints("enforce static c: not teller;"), appoint(1, 4, 9)}, 1, api.ErrConflict},
	} {
		before := c.s.Digest()
		if got, at, e := change.All(c.s, c.l); got != nil || at != c.at || e != c.want {
			t.Errorf("All of %+v: %d, error %d", c.l, at, e)
		}
		if c.s.Digest() != before {
			t.Errorf("All of %+v has changed the state", c.l)
		}
	}
	if got, at, e := change.All(s, nil); !got.Equal(s) || at != 0 || e != api.OK {
		t.Errorf("All of nothing: %d, error %d", at, e)
	}
}

// P25.4: the kinds after which a further user may violate an enforced static constraint.
func TestExceptions(t *testing.T) {
	s := staff(t)
	for _, c := range []struct {
		constraints string
		change      C
		violator    int
	}{
		{"declare static c: not clerk;", setConstraints("enforce static c: not clerk;"), 2},
		{"enforce static c: clerk;", addUser("dora"), 4},
		{"enforce static c: clerk;", day(6), 2},
	} {
		next := after(t, s, setConstraints(c.constraints), c.change)
		if !slices.Contains(next.Violations(), meaning.Violation{User: c.violator}) {
			t.Errorf("%s, %s: %v", c.constraints, change.Text(c.change), next.Violations())
		}
	}
}
