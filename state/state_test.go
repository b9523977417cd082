package state_test

import (
	"fmt"
	"math"
	"math/rand"
	"slices"
	"strings"
	"testing"

	"arbac/api"
	"arbac/bits"
	"arbac/formula"
	"arbac/grant"
	"arbac/hierarchy"
	"arbac/keccak"
	"arbac/meaning"
	"arbac/membership"
	"arbac/names"
	"arbac/parser"
	"arbac/permission"
	"arbac/rule"
	"arbac/session"
	"arbac/state"
	"arbac/syntax"
)

// P, S and F are short for parts, sets and formulas.
type (
	P = state.Parts
	S = bits.Set
	F = formula.Formula
)

// must returns a value without an error.
func must[T any](t *testing.T, x T, e api.Errno) T {
	t.Helper()
	if e != api.OK {
		t.Fatalf("error %d", e)
	}
	return x
}

// made returns the state of parts.
func made(t *testing.T, p P) *state.State {
	t.Helper()
	s, e := state.Of(p)
	return must(t, s, e)
}

// table returns a table of names, which are separated by blanks.
func table(t *testing.T, text string) *names.Table {
	t.Helper()
	n, e := names.Of(strings.Fields(text), api.MaxUsers)
	return must(t, n, e)
}

// counted returns a table of so many names.
func counted(t *testing.T, n int) *names.Table {
	t.Helper()
	var l []string
	for i := range n {
		l = append(l, fmt.Sprintf("n%d", i+1))
	}
	return table(t, strings.Join(l, " "))
}

// links returns a hierarchy.
func links(t *testing.T, l ...[2]int) *hierarchy.Hierarchy {
	t.Helper()
	h := hierarchy.New()
	for _, x := range l {
		next, e := h.Link(x[0], x[1])
		h = must(t, next, e)
	}
	return h
}

// members returns a book of assignments: user, role, last day.
func members(t *testing.T, l ...[3]int) *membership.Book {
	t.Helper()
	b := membership.New()
	for _, x := range l {
		next, e := b.Assign(x[0], x[1], x[2])
		b = must(t, next, e)
	}
	return b
}

// grants returns a book of grants: a number of a role, a blank, and the text of a permission.
func grants(t *testing.T, l ...string) *grant.Book {
	t.Helper()
	b := grant.New()
	for _, x := range l {
		var role int
		if _, e := fmt.Sscanf(x, "%d", &role); e != nil {
			t.Fatal(e)
		}
		_, text, _ := strings.Cut(x, " ")
		p, e := permission.Parse(text)
		next, e2 := b.Grant(role, must(t, p, e))
		b = must(t, next, e2)
	}
	return b
}

// sessions returns a book of sessions, numbered from 1 on: user, and active roles.
func sessions(t *testing.T, l ...[]int) *session.Book {
	t.Helper()
	b := session.New()
	for _, x := range l {
		next, n, e := b.Open(x[0])
		b = must(t, next, e)
		for _, role := range x[1:] {
			next, e := b.Activate(n, role)
			b = must(t, next, e)
		}
	}
	return b
}

// rules returns the rules of a source.
func rules(t *testing.T, s string, roles *names.Table, admin S) []rule.Rule {
	t.Helper()
	l, at, e := rule.Parse(s, roles, admin)
	if e != api.OK {
		t.Fatalf("%q: error %d at %d", s, e, at)
	}
	return l
}

// constraints returns the constraints of a source.
func constraints(t *testing.T, s string, roles *names.Table, admin S) []formula.Constraint {
	t.Helper()
	l, at, e := parser.Parse(s)
	if e != api.OK {
		t.Fatalf("%q: error %d at %d", s, e, at)
	}
	out, _, e := formula.ResolveAll(l, roles, admin)
	return must(t, out, e)
}

// role returns the formula of a role.
func role(n int) F { return F{Op: syntax.Role, Roles: []int{n}} }

// example returns the parts of example 1 of the chapter: r1 is 1, r2 is 2, a1 is 3.
func example(t *testing.T) P {
	t.Helper()
	return P{
		Day: 9, Users: table(t, "u1"), Roles: table(t, "r1 r2 a1"), Admin: bits.Of(3), Links: links(t, [2]int{1, 2}),
		Members: members(t, [3]int{1, 1, 9}), Grants: grants(t, "2 read /a/*"), Sessions: sessions(t, []int{1, 2}),
	}
}

// larger returns parts with something of everything: the users are 1 to 3, the roles 1 to 6, of which 5 and 6 are administrative.
func larger(t *testing.T) P {
	t.Helper()
	roles, admin := table(t, "clerk auditor reader teller hr boss"), bits.Of(5, 6)
	return P{
		Day: 7, Users: table(t, "ann bob cid"), Roles: roles, Admin: admin, Links: links(t, [2]int{1, 3}, [2]int{2, 3}, [2]int{6, 5}),
		Members:     members(t, [3]int{1, 1, 7}, [3]int{1, 2, 30}, [3]int{2, 4, 6}, [3]int{3, 6, 30000}, [3]int{3, 3, 8}),
		Grants:      grants(t, "3 read /a/*", "4 write /a/b", "1 read /c"),
		Rules:       rules(t, "assign auditor by hr if clerk and not teller on 3-7,10 for 30; revoke clerk by boss;", roles, admin),
		Constraints: constraints(t, "enforce static sod: count(clerk, auditor) <= 1; declare users few: members(reader) < 2; enforce dynamic one: not (clerk and teller);", roles, admin),
		Sessions:    sessions(t, []int{1, 3, 2}, []int{2, 4}, []int{3}),
	}
}

// P24.3, P24.4, P24.1: the examples of the chapter.
func TestExamples(t *testing.T) {
	p := example(t)
	s := made(t, p)
	if s.Explicit(1).Text() != "{1}" || s.Member(1).Text() != "{1 2}" || s.Effective(1).Text() != "{2}" || !s.Has(1, "read", "/a/b") {
		t.Errorf("day 9: %s, %s, %s", s.Explicit(1).Text(), s.Member(1).Text(), s.Effective(1).Text())
	}
	p.Day = 10
	s = made(t, p)
	if !s.Explicit(1).Empty() || !s.Member(1).Empty() || !s.Effective(1).Empty() || s.Has(1, "read", "/a/b") {
		t.Errorf("day 10: %s, %s, %s", s.Explicit(1).Text(), s.Member(1).Text(), s.Effective(1).Text())
	}
	for i, c := range []struct {
		change func(*P)
		want   api.Errno
	}{
		{func(p *P) { p.Links = links(t, [2]int{1, 3}) }, api.ErrType},
		{func(p *P) { p.Members = members(t, [3]int{1, 4, 9}) }, api.ErrNone},
		{func(p *P) { p.Grants = grants(t, "3 read /a/*") }, api.ErrType},
	} {
		p := example(t)
		c.change(&p)
		if s, e := state.Of(p); s != nil || e != c.want {
			t.Errorf("example 2, %d: error %d", i, e)
		}
	}
}

// P24.1: the state at the beginning, which is the zero value, too.
func TestNew(t *testing.T) {
	for _, s := range []*state.State{state.New(), new(state.State)} {
		p := s.Parts()
		if p.Day != 0 || p.Users == nil || p.Roles == nil || p.Links == nil || p.Members == nil || p.Grants == nil || p.Sessions == nil {
			t.Fatalf("parts %v", p)
		}
		if p.Users.Len()+p.Roles.Len()+p.Admin.Len()+len(p.Links.Links())+p.Members.Len()+p.Grants.Len()+len(p.Rules)+len(p.Constraints)+p.Sessions.Len() != 0 {
			t.Errorf("parts %v", p)
		}
		if s.Day() != 0 || s.Users() != 0 || s.Roles() != 0 || !s.Regular().Empty() || !s.Admin().Empty() || !s.Member(1).Empty() || s.Has(1, "read", "/") || len(s.Violations()) != 0 {
			t.Error("something is there")
		}
		again := made(t, p)
		if !s.Equal(again) || !again.Equal(s) || !s.Equal(state.New()) || s.Digest() != again.Digest() {
			t.Error("not the state of its parts")
		}
		if read, e := state.Read(s.Bytes()); e != api.OK || !read.Equal(s) {
			t.Errorf("Read: error %d", e)
		}
	}
}

// A fault makes parts that are refused with an error.
type fault struct {
	what   string
	change func(*P)
	want   api.Errno
}

// faults returns faults of larger, step by step in the order of the chapter. Those of different steps can be made
// together, the later one first.
func faults(t *testing.T) [][]fault {
	t.Helper()
	withRule := func(at int, change func(*rule.Rule)) func(*P) {
		return func(p *P) { change(&p.Rules[at]) }
	}
	withConstraint := func(at int, change func(*formula.Constraint)) func(*P) {
		return func(p *P) { change(&p.Constraints[at]) }
	}
	endless := F{Op: syntax.Not, Args: []F{role(1)}}
	endless.Args[0] = endless
	return [][]fault{
		{
			{"no users", func(p *P) { p.Users = nil }, api.ErrArg}, {"no roles", func(p *P) { p.Roles = nil }, api.ErrArg},
			{"no links", func(p *P) { p.Links = nil }, api.ErrArg}, {"no members", func(p *P) { p.Members = nil }, api.ErrArg},
			{"no grants", func(p *P) { p.Grants = nil }, api.ErrArg}, {"no sessions", func(p *P) { p.Sessions = nil }, api.ErrArg},
		},
		{
			{"day -1", func(p *P) { p.Day = -1 }, api.ErrRange}, {"day 30001", func(p *P) { p.Day = 30001 }, api.ErrRange},
			{"greatest day", func(p *P) { p.Day = math.MaxInt }, api.ErrRange}, {"least day", func(p *P) { p.Day = math.MinInt }, api.ErrRange},
		},
		{
			{"64 roles", func(p *P) { p.Roles = counted(t, 64) }, api.ErrLimit},
			{"65 rules", func(p *P) { p.Rules = append(p.Rules, slices.Repeat(p.Rules[:1], 65)...) }, api.ErrLimit},
			{"33 constraints", func(p *P) { p.Constraints = append(p.Constraints, make([]formula.Constraint, 30)...) }, api.ErrLimit},
		},
		{
			{"admin 7", func(p *P) { p.Admin = p.Admin.With(7) }, api.ErrNone}, {"admin 0", func(p *P) { p.Admin = p.Admin.With(0) }, api.ErrNone},
			{"admin 64", func(p *P) { p.Admin = p.Admin.With(64) }, api.ErrNone}, {"admin 4095", func(p *P) { p.Admin = p.Admin.With(4095) }, api.ErrNone},
		},
		{
			{"link to 7", func(p *P) { p.Links = links(t, [2]int{1, 7}) }, api.ErrNone}, {"link from 63", func(p *P) { p.Links = links(t, [2]int{1, 2}, [2]int{63, 2}) }, api.ErrNone},
			{"assignment of 7", func(p *P) { p.Members = members(t, [3]int{1, 7, 9}) }, api.ErrNone}, {"assignment that has ended", func(p *P) { p.Members = members(t, [3]int{1, 1, 9}, [3]int{1, 63, 0}) }, api.ErrNone},
			{"assignment to user 4", func(p *P) { p.Members = members(t, [3]int{4, 1, 9}) }, api.ErrNone}, {"assignment to user 256", func(p *P) { p.Members = members(t, [3]int{256, 1, 0}) }, api.ErrNone},
			{"grant to 7", func(p *P) { p.Grants = grants(t, "7 read /") }, api.ErrNone}, {"grant to 63", func(p *P) { p.Grants = grants(t, "1 read /", "63 read /") }, api.ErrNone},
			{"session of user 4", func(p *P) { p.Sessions = sessions(t, []int{1}, []int{4}) }, api.ErrNone}, {"session of user 256", func(p *P) { p.Sessions = sessions(t, []int{256}) }, api.ErrNone},
			{"role 7 in a session", func(p *P) { p.Sessions = sessions(t, []int{1, 1}, []int{1, 1, 7}) }, api.ErrNone}, {"role 63 in a session", func(p *P) { p.Sessions = sessions(t, []int{1, 63}) }, api.ErrNone},
			// Faults of the next step at the same place.
			{"link from 5 to 7", func(p *P) { p.Links = links(t, [2]int{1, 5}, [2]int{5, 7}) }, api.ErrNone}, {"grant to 5 and 7", func(p *P) { p.Grants = grants(t, "5 read /", "7 read /") }, api.ErrNone},
			{"roles 5 and 7 in a session", func(p *P) { p.Sessions = sessions(t, []int{1, 5, 7}) }, api.ErrNone},
		},
		{
			{"link from 1 to 5", func(p *P) { p.Links = links(t, [2]int{1, 5}) }, api.ErrType}, {"link from 6 to 4", func(p *P) { p.Links = links(t, [2]int{1, 2}, [2]int{6, 4}) }, api.ErrType},
			{"grant to 5", func(p *P) { p.Grants = grants(t, "1 read /", "5 read /") }, api.ErrType}, {"role 6 in a session", func(p *P) { p.Sessions = sessions(t, []int{1, 1}, []int{3, 1, 6}) }, api.ErrType},
		},
		{
			{"rule by 7", withRule(0, func(r *rule.Rule) { r.Admin = 7 }), api.ErrNone}, {"rule by 1", withRule(0, func(r *rule.Rule) { r.Admin = 1 }), api.ErrType},
			{"rule for 5", withRule(0, func(r *rule.Rule) { r.Target = 5 }), api.ErrType}, {"empty condition", withRule(0, func(r *rule.Rule) { r.If.Yes, r.If.No = bits.Of(1), bits.Of(1) }), api.ErrForm},
			{"length -1", withRule(0, func(r *rule.Rule) { r.Longest = -1 }), api.ErrRange},
		},
		{
			{"second rule by 7", withRule(1, func(r *rule.Rule) { r.Admin = 7 }), api.ErrNone}, {"second rule for 5", withRule(1, func(r *rule.Rule) { r.Target = 5 }), api.ErrType},
			{"second rule with a length", withRule(1, func(r *rule.Rule) { r.Longest = 1 }), api.ErrForm},
		},
		{
			{"no kind", withConstraint(0, func(c *formula.Constraint) { c.Kind = 0 }), api.ErrArg}, {"no name", withConstraint(0, func(c *formula.Constraint) { c.Name = "by" }), api.ErrName},
			{"members in a static one", withConstraint(0, func(c *formula.Constraint) { c.Formula.Args[0].Op, c.Formula.Args[0].Roles = syntax.Members, []int{1} }), api.ErrType},
			{"no formula", withConstraint(0, func(c *formula.Constraint) { c.Formula = F{} }), api.ErrArg}, {"role 64", withConstraint(0, func(c *formula.Constraint) { c.Formula = role(64) }), api.ErrRange},
			{"endless formula", withConstraint(0, func(c *formula.Constraint) { c.Formula = endless }), api.ErrLimit},
			{"role 7", withConstraint(0, func(c *formula.Constraint) { c.Formula = role(7) }), api.ErrNone}, {"role 5", withConstraint(0, func(c *formula.Constraint) { c.Formula = role(5) }), api.ErrNone},
		},
		{
			{"no kind in the second one", withConstraint(1, func(c *formula.Constraint) { c.Kind = 4 }), api.ErrArg},
			{"the same name, and role 5", withConstraint(1, func(c *formula.Constraint) { c.Name, c.Kind, c.Formula = "sod", syntax.Static, role(5) }), api.ErrForm},
			{"role 6 in the second one", withConstraint(1, func(c *formula.Constraint) { c.Formula.Args[0].Roles = []int{6} }), api.ErrNone},
		},
		{
			{"the name of the first one", withConstraint(2, func(c *formula.Constraint) { c.Name = "sod" }), api.ErrForm}, {"a number", withConstraint(2, func(c *formula.Constraint) { c.Formula = F{Op: syntax.Number} }), api.ErrType},
			{"role 63", withConstraint(2, func(c *formula.Constraint) { c.Formula = role(63) }), api.ErrNone},
			{"the same name, and no formula", withConstraint(2, func(c *formula.Constraint) { c.Name, c.Formula = "sod", F{} }), api.ErrArg},
		},
	}
}

// P24.1: each error, and the first of two.
func TestOfErrors(t *testing.T) {
	steps := faults(t)
	made(t, larger(t))
	for i, step := range steps {
		for _, f := range step {
			p := larger(t)
			f.change(&p)
			if s, e := state.Of(p); s != nil || e != f.want {
				t.Errorf("%s: error %d, not %d", f.what, e, f.want)
			}
			for _, later := range steps[i+1:] {
				for _, g := range later {
					p := larger(t)
					g.change(&p)
					f.change(&p)
					if s, e := state.Of(p); s != nil || e != f.want {
						t.Errorf("%s, %s: error %d, not %d", f.what, g.what, e, f.want)
					}
				}
			}
		}
	}
}

// P24.1: as much as there may be.
func TestOfLimits(t *testing.T) {
	roles := counted(t, api.MaxRoles)
	admin := bits.Of(63)
	var list []formula.Constraint
	for i := range api.MaxConstraints {
		list = append(list, formula.Constraint{Kind: syntax.Static, Name: fmt.Sprintf("c%d", i), Formula: role(62 - i)})
	}
	p := P{
		Day: api.MaxDay, Users: counted(t, api.MaxUsers), Roles: roles, Admin: admin, Links: links(t, [2]int{62, 1}),
		Members: members(t, [3]int{256, 63, 30000}, [3]int{256, 62, 0}), Grants: grants(t, "62 read /"),
		Rules: slices.Repeat(rules(t, "assign n62 by n63;", roles, admin), api.MaxRules), Constraints: list,
		Sessions: sessions(t, slices.Repeat([][]int{{256, 62}}, api.MaxSessions)...),
	}
	s := made(t, p)
	if s.Day() != 30000 || s.Users() != 256 || s.Roles() != 63 || s.Member(256).Text() != "{63}" || s.Admin().Text() != "{63}" || !s.Regular().Equal(bits.Below(63).Without(0)) {
		t.Errorf("%d, %d users, %d roles, %s", s.Day(), s.Users(), s.Roles(), s.Member(256).Text())
	}
	if read, e := state.Read(s.Bytes()); e != api.OK || !read.Equal(s) {
		t.Errorf("Read: error %d", e)
	}
	// All roles may be administrative, or none.
	for _, admin := range []S{{}, bits.Below(64).Without(0)} {
		p := state.New().Parts()
		p.Roles, p.Admin = roles, admin
		if s := made(t, p); !s.Admin().Equal(admin) || !s.Regular().Or(admin).Equal(bits.Below(64).Without(0)) || s.Regular().Meets(admin) {
			t.Errorf("administrative %s, regular %s", s.Admin().Text(), s.Regular().Text())
		}
	}
}

// equalParts compares parts by the functions of their layers.
func equalParts(p, q P) bool {
	return p.Day == q.Day && p.Users.Equal(q.Users) && p.Roles.Equal(q.Roles) && p.Admin.Equal(q.Admin) && p.Links.Equal(q.Links) && p.Members.Equal(q.Members) &&
		p.Grants.Equal(q.Grants) && slices.EqualFunc(p.Rules, q.Rules, rule.Equal) && slices.EqualFunc(p.Constraints, q.Constraints, formula.EqualConstraint) && p.Sessions.Equal(q.Sessions)
}

// spoil changes all that the lists of parts consist of.
func spoil(p P) {
	clear(p.Rules)
	for _, c := range p.Constraints {
		spoilFormula(c.Formula)
	}
	clear(p.Constraints)
}

// spoilFormula changes the lists of a formula.
func spoilFormula(f F) {
	for _, x := range f.Args {
		spoilFormula(x)
	}
	clear(f.Roles)
	clear(f.Args)
}

// spare reports whether a list of a formula has spare capacity.
func spare(f F) bool {
	return cap(f.Roles) > len(f.Roles) || cap(f.Args) > len(f.Args) || slices.ContainsFunc(f.Args, spare)
}

// P24.2, Rules, Ways: the parts are those that were given; lists are new, and have no spare capacity.
func TestParts(t *testing.T) {
	p, want := larger(t), larger(t)
	before := larger(t)
	p.Rules, p.Constraints = slices.Grow(p.Rules, 10), slices.Grow(p.Constraints, 10)
	s := made(t, p)
	if !equalParts(p, before) {
		t.Error("Of has changed its argument")
	}
	spoil(p)
	if !equalParts(s.Parts(), want) {
		t.Fatal("a change of the argument of Of changes the state")
	}
	q, r := s.Parts(), s.Parts()
	if cap(q.Rules) > len(q.Rules) || cap(q.Constraints) > len(q.Constraints) || slices.ContainsFunc(q.Constraints, func(c formula.Constraint) bool { return spare(c.Formula) }) {
		t.Error("a list has spare capacity")
	}
	digest := s.Digest()
	spoil(q)
	if !equalParts(r, want) || !equalParts(s.Parts(), want) || s.Digest() != digest {
		t.Fatal("a change of parts changes other parts, or the state")
	}
	again := made(t, r)
	spoil(r)
	if !again.Equal(s) || again.Digest() != digest {
		t.Error("the state of the parts is another one")
	}
	clear(s.Bytes())
	clear(s.Violations())
	if !equalParts(s.Parts(), want) {
		t.Error("the state has changed")
	}
}

// random returns parts of a few users and roles.
func random(t *testing.T, r *rand.Rand) P {
	t.Helper()
	users, roles := r.Intn(5), r.Intn(8)
	p := state.New().Parts()
	p.Day, p.Users, p.Roles = r.Intn(8), counted(t, users), counted(t, roles)
	for n := 1; n <= roles; n++ {
		if r.Intn(4) == 0 {
			p.Admin = p.Admin.With(n)
		}
	}
	if roles == 0 {
		return p
	}
	any := func() int { return 1 + r.Intn(roles) }
	for range r.Intn(10) {
		a, b := any(), any()
		if next, e := p.Links.Link(a, b); e == api.OK && p.Admin.Has(a) == p.Admin.Has(b) {
			p.Links = next
		}
	}
	for range r.Intn(12) * min(users, 1) {
		next, e := p.Members.Assign(1+r.Intn(users), any(), r.Intn(10))
		p.Members = must(t, next, e)
	}
	regular := bits.Below(roles + 1).Without(0).Minus(p.Admin).List()
	if len(regular) == 0 {
		return p
	}
	one := func() int { return regular[r.Intn(len(regular))] }
	for range r.Intn(8) {
		x := permission.Permission{Action: []string{"read", "write"}[r.Intn(2)], Path: []string{"/", "/a", "/a/b", "/c"}[r.Intn(4)], Deep: r.Intn(2) == 0}
		if next, e := p.Grants.Grant(one(), x); e == api.OK {
			p.Grants = next
		}
	}
	for range r.Intn(6) * min(users, 1) {
		next, n, e := p.Sessions.Open(1 + r.Intn(users))
		p.Sessions = must(t, next, e)
		for range r.Intn(4) {
			if next, e := p.Sessions.Activate(n, one()); e == api.OK {
				p.Sessions = next
			}
		}
		if n > 1 && r.Intn(4) == 0 {
			if next, e := p.Sessions.Close(n - 1); e == api.OK {
				p.Sessions = next
			}
		}
	}
	return withTexts(t, r, p, one)
}

// withTexts returns parts with random rules and constraints.
func withTexts(t *testing.T, r *rand.Rand, p P, one func() int) P {
	t.Helper()
	admin := p.Admin.List()
	for range r.Intn(5) * min(len(admin), 1) {
		s := fmt.Sprintf("assign n%d by n%d if not n%d on %d- for %d;", one(), admin[r.Intn(len(admin))], one(), r.Intn(10), 1+r.Intn(9))
		if r.Intn(3) == 0 {
			s = fmt.Sprintf("revoke n%d by n%d;", one(), admin[r.Intn(len(admin))])
		}
		p.Rules = append(p.Rules, rules(t, s, p.Roles, p.Admin)...)
	}
	for i := range r.Intn(5) {
		s := fmt.Sprintf("%s static c%d: not (n%d and n%d);", []string{"enforce", "declare"}[r.Intn(2)], i, one(), one())
		switch r.Intn(4) {
		case 0:
			s = fmt.Sprintf("enforce users c%d: members(n%d) < %d;", i, one(), r.Intn(4))
		case 1:
			s = fmt.Sprintf("declare dynamic c%d: n%d -> n%d;", i, one(), one())
		}
		p.Constraints = append(p.Constraints, constraints(t, s, p.Roles, p.Admin)...)
	}
	return p
}

// closure adds to roles all that they imply, link by link.
func closure(roles S, h *hierarchy.Hierarchy) S {
	for range 64 {
		for _, x := range h.Links() {
			if roles.Has(x[0]) {
				roles = roles.With(x[1])
			}
		}
	}
	return roles
}

// check compares what a state answers with its parts, by definition.
func check(t *testing.T, s *state.State, p P) {
	t.Helper()
	if s.Day() != p.Day || s.Users() != p.Users.Len() || s.Roles() != p.Roles.Len() || !s.Admin().Equal(p.Admin) {
		t.Fatalf("day %d, %d users, %d roles, administrative %s", s.Day(), s.Users(), s.Roles(), s.Admin().Text())
	}
	for n := -1; n <= 70; n++ {
		if want := n >= 1 && n <= p.Roles.Len() && !p.Admin.Has(n); s.Regular().Has(n) != want {
			t.Fatalf("role %d is in the regular ones, %s", n, s.Regular().Text())
		}
	}
	for user := -1; user <= p.Users.Len()+2; user++ {
		var explicit S
		for _, x := range p.Members.Entries() {
			if x.User == user && x.Until >= p.Day {
				explicit = explicit.With(x.Role)
			}
		}
		member := closure(explicit, p.Links)
		if !s.Explicit(user).Equal(explicit) || !s.Member(user).Equal(member) {
			t.Fatalf("user %d: explicit %s, not %s; member %s, not %s", user, s.Explicit(user).Text(), explicit.Text(), s.Member(user).Text(), member.Text())
		}
		for _, q := range []string{"read /", "read /a", "read /a/b", "read /c/d", "write /a/b/c", "write /", "write /c", "run /a", "by /a", "read a", "read "} {
			action, path, _ := strings.Cut(q, " ")
			has := slices.ContainsFunc(p.Grants.Entries(), func(x grant.Entry) bool { return member.Has(x.Role) && permission.Covers(x.Permission, action, path) })
			if s.Has(user, action, path) != has {
				t.Fatalf("user %d: Has of %q is not %v", user, q, has)
			}
		}
	}
	for n := -1; n <= api.MaxSessions+1; n++ {
		var effective S
		if x, open := p.Sessions.Get(n); open {
			effective = closure(x.Active.And(s.Member(x.User)), p.Links)
		}
		if !s.Effective(n).Equal(effective) {
			t.Fatalf("session %d: effective %s, not %s", n, s.Effective(n).Text(), effective.Text())
		}
	}
}

// P24.2 to P24.5
func TestAnswers(t *testing.T) {
	r := rand.New(rand.NewSource(243))
	effective, held, violated := 0, 0, 0
	all := []P{larger(t), example(t), state.New().Parts()}
	for range 1500 {
		all = append(all, random(t, r))
	}
	for _, p := range all {
		s := made(t, p)
		check(t, s, p)
		if !equalParts(s.Parts(), p) {
			t.Fatalf("parts %v, not %v", s.Parts(), p)
		}
		f := s.Facts()
		if f.Links == nil || f.Members == nil || !f.Links.Equal(p.Links) || !f.Members.Equal(p.Members) || f.Users != p.Users.Len() || f.Day != p.Day {
			t.Fatalf("facts %v", f)
		}
		want := meaning.Violated(p.Constraints, meaning.Facts{Links: p.Links, Members: p.Members, Users: p.Users.Len(), Day: p.Day})
		if !slices.Equal(s.Violations(), want) {
			t.Fatalf("violations %v, not %v", s.Violations(), want)
		}
		violated += len(want)
		for user := range p.Users.Len() {
			held += s.Member(user + 1).Len()
		}
		for n := range 10 {
			effective += s.Effective(n).Len()
		}
	}
	if effective < 100 || held < 1000 || violated < 100 {
		t.Errorf("only %d effective roles, %d member roles, %d violations", effective, held, violated)
	}
}

// P24.5: by hand. Ann is clerk and auditor; ann and cid are readers.
func TestViolations(t *testing.T) {
	p := larger(t)
	ann, few := meaning.Violation{Constraint: 0, User: 1}, meaning.Violation{Constraint: 1}
	for day, want := range map[int][]meaning.Violation{7: {ann, few}, 8: {few}, 9: nil, 31: nil} {
		p.Day = day
		if l := made(t, p).Violations(); !slices.Equal(l, want) {
			t.Errorf("day %d: %v, not %v", day, l, want)
		}
	}
}

// P24.6: states that differ in one part each.
func TestEqual(t *testing.T) {
	changes := []func(*P){
		func(p *P) {},
		func(p *P) { p.Day = 8 },
		func(p *P) { p.Users = table(t, "ann bob cid dan") }, func(p *P) { p.Users = table(t, "ann cid bob") },
		func(p *P) { p.Roles = table(t, "clerk auditor reader teller hr boss more") }, func(p *P) { p.Roles = table(t, "auditor clerk reader teller hr boss") },
		func(p *P) { p.Links = links(t, [2]int{1, 3}, [2]int{2, 3}) }, func(p *P) { p.Links = links(t, [2]int{1, 3}, [2]int{2, 3}, [2]int{5, 6}) },
		func(p *P) { p.Members = members(t) }, func(p *P) { b, e := p.Members.Assign(2, 4, 5); p.Members = must(t, b, e) },
		func(p *P) { p.Grants = grants(t, "3 read /a/*", "4 write /a/b") }, func(p *P) { p.Grants = grants(t, "3 read /a/*", "4 write /a/b", "2 read /c") },
		func(p *P) { p.Rules = p.Rules[:1] }, func(p *P) { slices.Reverse(p.Rules) }, func(p *P) { p.Rules[0].Longest = 29 }, func(p *P) { p.Rules = nil },
		func(p *P) { p.Constraints = p.Constraints[:2] }, func(p *P) { slices.Reverse(p.Constraints) }, func(p *P) { p.Constraints[0].Enforce = false }, func(p *P) { p.Constraints[1].Formula.Args[1].N = 3 }, func(p *P) { p.Constraints = nil },
		func(p *P) { p.Sessions = sessions(t, []int{1, 3, 2}, []int{2, 4}) }, func(p *P) { p.Sessions = sessions(t, []int{1, 3, 2}, []int{2, 4}, []int{2}) }, func(p *P) { p.Sessions = sessions(t, []int{1, 3}, []int{2, 4}, []int{3}) },
	}
	l := []*state.State{nil, state.New()}
	for _, change := range changes {
		p := larger(t)
		change(&p)
		l = append(l, made(t, p))
	}
	// Administrative roles alone.
	p := state.New().Parts()
	p.Roles = table(t, "r")
	l = append(l, made(t, p))
	p.Admin = bits.Of(1)
	l = append(l, made(t, p))
	digests := map[keccak.ID]bool{}
	for i, a := range l {
		for j, b := range l {
			if a.Equal(b) != (i == j) {
				t.Errorf("Equal of states %d and %d is %v", i, j, a.Equal(b))
			}
		}
		digests[a.Digest()] = true
	}
	if len(digests) != len(l) {
		t.Errorf("%d digests of %d states", len(digests), len(l))
	}
	if a, b := made(t, larger(t)), made(t, larger(t)); !a.Equal(b) || !b.Equal(a) || a.Digest() != b.Digest() {
		t.Error("two states of the same parts")
	}
}

// The sentence on nil states of the chapter.
func TestNil(t *testing.T) {
	var s *state.State
	p := s.Parts()
	if p.Day != 0 || p.Users != nil || p.Roles != nil || !p.Admin.Empty() || p.Links != nil || p.Members != nil || p.Grants != nil || len(p.Rules) != 0 || len(p.Constraints) != 0 || p.Sessions != nil {
		t.Errorf("parts %v", p)
	}
	if s.Day() != 0 || s.Users() != 0 || s.Roles() != 0 || !s.Regular().Empty() || !s.Admin().Empty() {
		t.Error("numbers and roles")
	}
	for n := -1; n < 5; n++ {
		if !s.Explicit(n).Empty() || !s.Member(n).Empty() || !s.Effective(n).Empty() || s.Has(n, "read", "/") {
			t.Errorf("%d has something", n)
		}
	}
	if f := s.Facts(); f != (meaning.Facts{}) || len(s.Violations()) != 0 || len(s.Bytes()) != 0 || s.Digest() != (keccak.ID{}) {
		t.Error("facts, violations, bytes or digest")
	}
	if !s.Equal(nil) || s.Equal(state.New()) || state.New().Equal(s) || s.Equal(new(state.State)) {
		t.Error("Equal of a nil state")
	}
}
