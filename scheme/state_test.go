package scheme_test

import (
	"fmt"
	"math"
	"math/rand"
	"slices"
	"strings"
	"testing"

	"arbac/api"
	"arbac/bits"
	"arbac/change"
	"arbac/cube"
	"arbac/days"
	"arbac/formula"
	"arbac/hierarchy"
	"arbac/meaning"
	"arbac/membership"
	"arbac/normal"
	"arbac/permission"
	"arbac/rule"
	"arbac/scheme"
	"arbac/state"
	"arbac/syntax"
)

// K and F are short for changes and formulas.
type (
	K = change.Change
	F = formula.Formula
)

// after returns the state after changes.
func after(t *testing.T, s *state.State, l ...K) *state.State {
	t.Helper()
	next, at, e := change.All(s, l)
	if e != api.OK {
		t.Fatalf("change %d, %s: error %d", at, change.Text(l[at]), e)
	}
	return next
}

func link(senior, junior int) K     { return K{Kind: change.Link, Role: senior, Other: junior} }
func appoint(user, role, day int) K { return K{Kind: change.Appoint, User: user, Role: role, Day: day} }
func dismiss(user, role int) K      { return K{Kind: change.Dismiss, User: user, Role: role} }
func day(day int) K                 { return K{Kind: change.Day, Day: day} }
func setRules(text string) K        { return K{Kind: change.SetRules, Text: text} }
func setConstraints(text string) K  { return K{Kind: change.SetConstraints, Text: text} }
func assign(by, user, role, day int) K {
	return K{Kind: change.Assign, By: by, User: user, Role: role, Day: day}
}
func revoke(by, user, role int) K { return K{Kind: change.Revoke, By: by, User: user, Role: role} }

// grants returns the grant of a permission with a text.
func grants(role int, text string) K {
	p, e := permission.Parse(text)
	if e != api.OK {
		panic(text)
	}
	return K{Kind: change.Grant, Role: role, Permission: p}
}

// registered returns a state with users, regular and administrative roles of some names, which are separated by blanks.
func registered(t *testing.T, users, roles, admins string) *state.State {
	t.Helper()
	s := state.New()
	for i, text := range []string{users, roles, admins} {
		for _, name := range strings.Fields(text) {
			s = after(t, s, K{Kind: change.AddUser + change.Kind(i), Name: name})
		}
	}
	return s
}

// office returns a state on day 3: the users ann (1), bob (2), cid (3) and dan (4), the regular roles clerk (1), auditor (2),
// reader (3) and teller (4), the administrative roles hr (5), boss (6) and aide (7). Clerk is senior to reader, boss to hr.
// Ann is a member of boss, bob of hr and of clerk, cid of aide, and dan was one of teller.
func office(t *testing.T, l ...K) *state.State {
	t.Helper()
	s := after(t, registered(t, "ann bob cid dan", "clerk auditor reader teller", "hr boss aide"),
		link(1, 3), link(6, 5),
		appoint(1, 6, 30000), appoint(2, 5, 9), appoint(2, 1, 3), appoint(3, 7, 3), appoint(4, 4, 2),
		setRules("assign auditor by hr if reader and not teller on 3-9 for 5; assign teller by hr on 4-; assign reader by aide; revoke clerk by hr on 3; revoke teller by boss;"),
		day(3))
	return after(t, s, l...)
}

// P31.4: the problems of the users of a state, and of other groups.
func TestOf(t *testing.T) {
	s := office(t, setConstraints("enforce static a: count(clerk, auditor) <= 1; declare static b: not clerk; enforce static c: not teller or clerk; enforce static d: not (clerk and auditor and reader); enforce dynamic e: false; declare users f: members(clerk) < 1;"))
	goal := parsed(t, "2", "!1 4", "2")
	all := []R{
		{Target: 2, If: parsed(t, "3 !4")[0], Origin: 0},
		{Target: 3, Origin: 2},
		{Revoke: true, Target: 1, Origin: 3},
		{Revoke: true, Target: 4, Origin: 4},
	}
	for _, x := range []struct {
		untrusted []int
		user      int
		start     string
		rules     []int
	}{
		{[]int{1, 2, 3}, 2, "{1}", []int{0, 1, 2, 3}}, {[]int{3, 1}, 1, "{}", []int{0, 1, 2, 3}}, {[]int{1}, 3, "{}", []int{0, 2, 3}},
		{[]int{2}, 4, "{}", []int{0, 2}}, {[]int{3}, 2, "{1}", []int{1}}, {[]int{4}, 2, "{1}", nil}, {nil, 2, "{1}", nil}, {[]int{2, 2, 4, 2}, 2, "{1}", []int{0, 2}},
	} {
		want := P{Roles: 7, Links: s.Parts().Links, Never: parsed(t, "1 2", "!1 4"), Goal: goal}
		want.Start, _ = bits.Parse(x.start)
		for _, k := range x.rules {
			want.Rules = append(want.Rules, all[k])
		}
		slices.SortFunc(want.Never, cube.Compare)
		got, e := scheme.Of(s, x.untrusted, x.user, goal)
		if e != api.OK || !scheme.Equal(got, want) {
			t.Errorf("group %v, user %d: %+v, error %d; not %+v", x.untrusted, x.user, got, e, want)
		}
	}
	// The result has its own lists, and leaves the arguments as they are.
	group := []int{3, 2, 1}
	p, _ := scheme.Of(s, group, 2, goal)
	before := scheme.Copy(p)
	p.Goal[0], p.Never[0], p.Rules[0].Target = C{}, C{}, 9
	if again, _ := scheme.Of(s, group, 2, goal); !scheme.Equal(again, before) || !slices.Equal(group, []int{3, 2, 1}) || !cube.Equal(goal[0], parsed(t, "2")[0]) {
		t.Error("a caller has changed a problem, or its arguments")
	}
	// On the next day other rules are usable, and some roles are gone.
	next := after(t, s, day(4))
	if p, e := scheme.Of(next, []int{1, 2, 3}, 2, nil); e != api.OK || !p.Start.Empty() || len(p.Rules) != 3 || p.Rules[1].Origin != 1 || p.Rules[2].Origin != 4 {
		t.Errorf("on the next day: %+v, error %d", p, e)
	}
}

// P31.4: the errors, and which one is the first.
func TestOfErrors(t *testing.T) {
	s := office(t, setConstraints("enforce users a: members(auditor) <= 1;"))
	bad := []C{{Yes: bits.Of(8)}}
	none := after(t, state.New(), K{Kind: change.AddUser, Name: "ann"})
	for _, x := range []struct {
		what      string
		s         *state.State
		untrusted []int
		user      int
		goal      []C
		want      api.Errno
	}{
		{"no state", nil, []int{1}, 0, bad, api.ErrArg},
		{"no user 0", s, []int{1}, 0, bad, api.ErrNone}, {"no user -1", s, nil, -1, nil, api.ErrNone}, {"no user 5", s, nil, 5, nil, api.ErrNone},
		{"no user 257", s, nil, 257, nil, api.ErrNone}, {"no such user", s, nil, math.MaxInt, nil, api.ErrNone}, {"nobody registered", state.New(), nil, 1, nil, api.ErrNone}, {"zero value", new(state.State), nil, 1, nil, api.ErrNone},
		{"untrusted 0", s, []int{1, 0}, 1, bad, api.ErrNone}, {"untrusted 5", s, []int{5}, 1, nil, api.ErrNone}, {"untrusted -1", s, []int{4, -1, 4}, 1, nil, api.ErrNone}, {"untrusted", s, []int{math.MinInt}, 1, nil, api.ErrNone},
		{"out of scope", s, []int{1}, 1, bad, api.ErrScope}, {"within it", s, []int{3}, 1, bad, api.ErrNone}, {"within it", s, []int{3}, 1, nil, api.OK},
		{"no roles", none, []int{1}, 1, nil, api.ErrArg}, {"no roles", none, nil, 1, bad, api.ErrArg},
		{"too many goals", s, nil, 1, make([]C, 2001), api.ErrLimit}, {"many goals", s, nil, 1, make([]C, 2000), api.OK}, {"unknown roles", s, nil, 1, []C{{}, {No: bits.Of(0)}}, api.ErrNone},
		{"an empty goal", s, nil, 1, []C{{Yes: bits.Of(1), No: bits.Of(1)}}, api.ErrForm}, {"administrative roles", s, nil, 1, []C{{Yes: bits.Of(5)}}, api.OK},
	} {
		got, e := scheme.Of(x.s, x.untrusted, x.user, x.goal)
		if e != x.want || e != api.OK && !scheme.Equal(got, P{}) {
			t.Errorf("%s: %+v, error %d, not %d", x.what, got, e, x.want)
		}
	}
	// Bob is a clerk when this is enforced.
	s = office(t, setConstraints("enforce static a: not reader;"))
	if p, e := scheme.Of(s, nil, 2, nil); e != api.ErrState || !scheme.Equal(p, P{}) {
		t.Errorf("a start that is not good: %+v, error %d", p, e)
	}
	if _, e := scheme.Of(s, nil, 2, []C{{Yes: bits.Of(1), No: bits.Of(1)}}); e != api.ErrForm {
		t.Errorf("an empty goal, and a start that is not good: error %d", e)
	}
	if _, e := scheme.Of(s, []int{1, 2, 3}, 1, nil); e != api.OK {
		t.Errorf("another user: error %d", e)
	}
}

// P31.4: which users constraints are outside the scope.
func TestScope(t *testing.T) {
	for _, x := range []struct {
		constraints string
		untrusted   []int
		want        api.Errno
	}{
		{"enforce users a: members(auditor) <= 1;", []int{2}, api.ErrScope}, {"declare users a: members(auditor) <= 1;", []int{2}, api.OK}, {"enforce static a: not auditor;", []int{2}, api.OK}, {"enforce dynamic a: not auditor;", []int{2}, api.OK},
		{"enforce users a: members(auditor) <= 1;", []int{3}, api.OK}, {"enforce users a: members(auditor) <= 1;", nil, api.OK}, {"enforce users a: members(auditor) <= 1;", []int{3, 4, 1}, api.ErrScope},
		// Teller is assigned on later days only, and revoked by ann alone.
		{"enforce users a: members(teller) <= 1;", []int{2, 3}, api.OK}, {"enforce users a: members(teller) <= 1;", []int{1}, api.ErrScope},
		// Clerk is revoked by hr, and implies reader; reader is assigned by aide, and implies no clerk.
		{"enforce users a: members(clerk) <= 1;", []int{2}, api.ErrScope}, {"enforce users a: members(reader) <= 1;", []int{2}, api.ErrScope}, {"enforce users a: members(reader) <= 1;", []int{3}, api.ErrScope}, {"enforce users a: members(clerk) <= 1;", []int{3}, api.OK},
		{"enforce users a: members(teller) <= 1; declare users b: members(reader) <= 1; enforce users c: true or members(clerk) + members(reader) <= 1;", []int{3}, api.ErrScope},
		{"enforce users a: true;", []int{1, 2, 3, 4}, api.OK},
	} {
		s := office(t, setConstraints(x.constraints))
		for user := range 4 {
			if _, e := scheme.Of(s, x.untrusted, user+1, nil); e != x.want {
				t.Errorf("%s: group %v, user %d: error %d", x.constraints, x.untrusted, user+1, e)
			}
		}
	}
}

// odd returns a formula that is violated by the sets with an odd number of some eight roles: it has 128 prime implicants.
func odd(roles []int) F {
	even := F{Op: syntax.False}
	for _, n := range []int{0, 2, 4, 6, 8} {
		even = F{Op: syntax.Or, Args: []F{even, {Op: syntax.Eq, Args: []F{{Op: syntax.Count, Roles: roles}, {Op: syntax.Number, N: n}}}}}
	}
	return even
}

// P31.4: a state may have more never cubes than a problem.
func TestManyNever(t *testing.T) {
	p := state.New().Parts()
	p.Users, _, _ = p.Users.Add("u", api.MaxUsers)
	for i := range api.MaxRoles {
		p.Roles, _, _ = p.Roles.Add(fmt.Sprintf("r%d", i+1), api.MaxRoles)
	}
	for i := range 16 {
		var roles []int
		for n := range 8 {
			roles = append(roles, 1+3*i+n)
		}
		p.Constraints = append(p.Constraints, formula.Constraint{Enforce: true, Kind: syntax.Static, Name: fmt.Sprintf("c%d", i), Formula: odd(roles)})
		s, e := state.Of(p)
		must(t, s, e)
		got, e := scheme.Of(s, nil, 1, nil)
		if n := 128 * (i + 1); n <= 2000 && (e != api.OK || len(got.Never) != n) || n > 2000 && e != api.ErrLimit {
			t.Errorf("%d constraints: %d cubes, error %d", i+1, len(got.Never), e)
		}
	}
}

// random returns a state on day 5 of up to four users and up to seven roles.
func random(t *testing.T, r *rand.Rand) *state.State {
	t.Helper()
	p := state.New().Parts()
	p.Day = 5
	users, roles := 1+r.Intn(4), 2+r.Intn(6)
	for i := range users {
		p.Users, _, _ = p.Users.Add(fmt.Sprintf("u%d", i+1), api.MaxUsers)
	}
	for i := range roles {
		p.Roles, _, _ = p.Roles.Add(fmt.Sprintf("r%d", i+1), api.MaxRoles)
	}
	p.Admin = randomSet(r, roles, 4)
	if p.Admin.Len() == roles {
		p.Admin = bits.Of(1)
	}
	regular := bits.Of(numbers(roles)...).Minus(p.Admin).List()
	for _, l := range randomLinks(r, roles).Links() {
		if p.Admin.Has(l[0]) == p.Admin.Has(l[1]) && r.Intn(2) == 0 {
			p.Links, _ = p.Links.Link(l[0], l[1])
		}
	}
	for user := range users {
		for role := range roles {
			if r.Intn(4) == 0 || p.Admin.Has(role+1) && r.Intn(2) == 0 {
				p.Members, _ = p.Members.Assign(user+1, role+1, []int{3, 4, 5, 6, 30000}[r.Intn(5)])
			}
		}
	}
	for _, role := range regular {
		for _, object := range []string{"/", "/a", "/a/b"} {
			if r.Intn(5) == 0 {
				p.Grants, _ = p.Grants.Grant(role, permission.Permission{Action: "read", Path: object, Deep: r.Intn(2) == 0})
			}
		}
	}
	if !p.Admin.Empty() {
		for range r.Intn(12) {
			p.Rules = append(p.Rules, randomRule(t, r, p.Admin.List(), regular))
		}
	}
	for i := range r.Intn(5) {
		p.Constraints = append(p.Constraints, randomConstraint(r, regular, fmt.Sprintf("c%d", i)))
	}
	s, e := state.Of(p)
	return must(t, s, e)
}

// randomRule returns a rule, which is usable on day 5 in most cases.
func randomRule(t *testing.T, r *rand.Rand, admins, regular []int) rule.Rule {
	t.Helper()
	when, e := days.Of([]days.Span{{From: 0, To: 30000}, {From: 5, To: 5}, {From: 0, To: 5}, {From: 6, To: 9}}[r.Intn(4)])
	x := rule.Rule{Revoke: r.Intn(3) == 0, Admin: admins[r.Intn(len(admins))], Target: regular[r.Intn(len(regular))], When: must(t, when, e)}
	if x.Revoke {
		return x
	}
	x.Longest = []int{0, 1, 3}[r.Intn(3)]
	for _, role := range regular {
		switch r.Intn(8) {
		case 0:
			x.If.Yes = x.If.Yes.With(role)
		case 1:
			x.If.No = x.If.No.With(role)
		}
	}
	return x
}

// randomConstraint returns a constraint, which forbids little in most cases.
func randomConstraint(r *rand.Rand, regular []int, name string) formula.Constraint {
	a, b := regular[r.Intn(len(regular))], regular[r.Intn(len(regular))]
	role := func(n int) F { return F{Op: syntax.Role, Roles: []int{n}} }
	number := func(n int) F { return F{Op: syntax.Number, N: n} }
	op := func(o syntax.Op, l ...F) F { return F{Op: o, Args: l} }
	c := formula.Constraint{Enforce: r.Intn(4) > 0, Kind: syntax.Static, Name: name}
	if r.Intn(4) == 0 {
		c.Kind = syntax.Dynamic
	}
	switch r.Intn(5) {
	case 0:
		c.Formula = op(syntax.Implies, role(a), role(b))
	case 1:
		c.Formula = op(syntax.Not, op(syntax.And, role(a), role(b)))
	case 2, 3:
		c.Formula = op(syntax.Le, F{Op: syntax.Count, Roles: regular}, number(1+r.Intn(3)))
	default:
		c.Kind = syntax.Users
		c.Formula = op(syntax.Le, F{Op: syntax.Members, Roles: []int{a}}, number(r.Intn(3)))
	}
	return c
}

// group returns random users of a state, in any order, some of them more than once.
func group(r *rand.Rand, s *state.State) []int {
	var l []int
	for range r.Intn(5) {
		l = append(l, 1+r.Intn(s.Users()))
	}
	return l
}

// explicitOn reports whether a user has an active assignment.
func explicitOn(p state.Parts, user, role int) bool {
	return slices.ContainsFunc(p.Members.Entries(), func(e membership.Entry) bool { return e.User == user && e.Role == role && e.Until >= p.Day })
}

// memberOf reports whether a user is a member of a role, by the entries and links.
func memberOf(p state.Parts, user, role int) bool {
	var roles S
	for r := range p.Roles.Len() {
		if explicitOn(p, user, r+1) {
			roles = roles.With(r + 1)
		}
	}
	return closed(p.Links, roles).Has(role)
}

// problem returns the problem of a user of a state, by the definition.
func problem(s *state.State, untrusted []int, user int, goal []C) (P, api.Errno) {
	parts := s.Parts()
	p := P{Roles: parts.Roles.Len(), Links: parts.Links, Goal: goal}
	var changed S
	for i, x := range parts.Rules {
		if slices.ContainsFunc(untrusted, func(u int) bool { return memberOf(parts, u, x.Admin) }) && x.When.Has(parts.Day) {
			p.Rules = append(p.Rules, R{Revoke: x.Revoke, If: x.If, Target: x.Target, Origin: i})
			changed = changed.Or(closed(p.Links, bits.Of(x.Target)))
		}
	}
	for r := range p.Roles {
		if explicitOn(parts, user, r+1) && !parts.Admin.Has(r+1) {
			p.Start = p.Start.With(r + 1)
		}
	}
	for _, c := range parts.Constraints {
		if c.Enforce && c.Kind == syntax.Users && formula.Mentioned(c.Formula).Meets(changed) {
			return P{}, api.ErrScope
		}
		if c.Enforce && c.Kind == syntax.Static {
			l, _ := normal.Violations(c.Formula)
			p.Never = append(p.Never, l...)
		}
	}
	p.Never = cube.Simple(p.Never)
	if satisfies(p, p.Never, p.Start) {
		return P{}, api.ErrState
	}
	return p, api.OK
}

// violates reports whether a set of explicit regular roles violates an enforced static constraint.
func violates(p state.Parts, set S) bool {
	return slices.ContainsFunc(p.Constraints, func(c formula.Constraint) bool {
		return c.Enforce && c.Kind == syntax.Static && !meaning.Holds(c.Formula, closed(p.Links, set), nil)
	})
}

// P31.4: random states, compared with the definition.
func TestOfRandom(t *testing.T) {
	r := rand.New(rand.NewSource(314))
	seen := map[api.Errno]int{}
	rules, bad := 0, 0
	for range 1500 {
		s := random(t, r)
		untrusted, user, goal := group(r, s), 1+r.Intn(s.Users()), []C{randomCube(r, s.Roles(), 3)}
		want, e := problem(s, untrusted, user, goal)
		before := s.Digest()
		got, f := scheme.Of(s, untrusted, user, goal)
		if f != e || !scheme.Equal(got, want) || s.Digest() != before {
			t.Fatalf("%+v, error %d; not %+v, error %d", got, f, want, e)
		}
		seen[e]++
		if e != api.OK {
			continue
		}
		if scheme.Check(got) != api.OK {
			t.Fatalf("Check of %+v: error %d", got, scheme.Check(got))
		}
		if len(got.Rules) > 2 {
			rules++
		}
		for _, set := range subsets(s.Regular().List()) {
			if scheme.Good(got, set) == violates(s.Parts(), set) {
				t.Fatalf("%+v: %s is good: %v", got, set.Text(), scheme.Good(got, set))
			}
			if !scheme.Good(got, set) {
				bad++
			}
		}
	}
	if seen[api.OK] < 500 || seen[api.ErrScope] < 50 || seen[api.ErrState] < 50 || rules < 100 || bad < 1000 {
		t.Errorf("errors %v, %d with rules, %d bad sets", seen, rules, bad)
	}
}

// P31.5: the roles with a grant, not those that imply them.
func TestAccess(t *testing.T) {
	s := office(t, grants(3, "read /a/*"), grants(4, "read /a/b"), grants(2, "read /b"), grants(1, "write /*"))
	for _, x := range []struct {
		s            *state.State
		action, path string
		want         []string
	}{
		{s, "read", "/a/b", []string{"3", "4"}}, {s, "read", "/a", []string{"3"}}, {s, "read", "/b", []string{"2"}}, {s, "write", "/b/c", []string{"1"}},
		{s, "read", "/", nil}, {s, "read", "/b/c", nil}, {s, "sell", "/a/b", nil}, {s, "by", "/a/b", nil}, {s, "", "/a/b", nil}, {s, "read", "", nil}, {s, "read", "/a/", nil}, {s, "read", "a/b", nil},
		{nil, "read", "/a/b", nil}, {state.New(), "read", "/a/b", nil}, {new(state.State), "read", "/a/b", nil},
	} {
		if got := scheme.Access(x.s, x.action, x.path); !slices.EqualFunc(got, parsed(t, x.want...), cube.Equal) {
			t.Errorf("Access(%q, %q): %q", x.action, x.path, texts(got))
		}
	}
	r := rand.New(rand.NewSource(315))
	several := 0
	for range 500 {
		s := random(t, r)
		for _, object := range []string{"/", "/a", "/a/b", "/a/b/c", "/d"} {
			var want []C
			for role := 1; role <= s.Roles(); role++ {
				for _, p := range s.Parts().Grants.Of(role) {
					if permission.Covers(p, "read", object) && (len(want) == 0 || !want[len(want)-1].Yes.Has(role)) {
						want = append(want, C{Yes: bits.Of(role)})
					}
				}
			}
			got := scheme.Access(s, "read", object)
			if !slices.EqualFunc(got, want, cube.Equal) {
				t.Fatalf("Access(%s): %q, not %q", object, texts(got), texts(want))
			}
			if len(got) > 1 {
				several++
			}
			// The goal is reached where the user has the permission.
			for user := 1; user <= s.Users(); user++ {
				p := P{Links: s.Parts().Links, Goal: got}
				if scheme.Reached(p, s.Explicit(user)) != s.Has(user, "read", object) {
					t.Fatalf("user %d, %s: %v", user, object, s.Has(user, "read", object))
				}
			}
		}
	}
	if several < 200 {
		t.Errorf("only %d goals have several cubes", several)
	}
}

// P31.5: the normal form of a static constraint, and the errors.
func TestViolation(t *testing.T) {
	role := F{Op: syntax.Role, Roles: []int{2}}
	most := func(l ...int) F {
		return F{Op: syntax.Le, Args: []F{{Op: syntax.Count, Roles: l}, {Op: syntax.Number, N: 1}}}
	}
	members := F{Op: syntax.Le, Args: []F{{Op: syntax.Members, Roles: []int{1}}, {Op: syntax.Number, N: 1}}}
	for i, x := range []struct {
		c    formula.Constraint
		want []string
		e    api.Errno
	}{
		{formula.Constraint{Kind: syntax.Static, Formula: role}, []string{"!2"}, api.OK},
		{formula.Constraint{Enforce: true, Kind: syntax.Static, Name: "sod", Formula: most(1, 2, 3)}, []string{"1 2", "1 3", "2 3"}, api.OK},
		{formula.Constraint{Kind: syntax.Static, Formula: F{Op: syntax.True}}, nil, api.OK},
		{formula.Constraint{Kind: syntax.Dynamic, Formula: role}, nil, api.ErrType}, {formula.Constraint{Kind: syntax.Users, Formula: F{Op: syntax.True}}, nil, api.ErrType}, {formula.Constraint{Formula: role}, nil, api.ErrType},
		{formula.Constraint{Kind: 9, Formula: role}, nil, api.ErrType}, {formula.Constraint{Kind: syntax.Users, Formula: members}, nil, api.ErrType}, {formula.Constraint{Kind: syntax.Static, Formula: members}, nil, api.ErrType},
		{formula.Constraint{Kind: syntax.Static}, nil, api.ErrArg}, {formula.Constraint{Kind: syntax.Static, Formula: most(1, 1)}, nil, api.ErrExists}, {formula.Constraint{Kind: syntax.Static, Formula: most(1, 64)}, nil, api.ErrRange},
		{formula.Constraint{Kind: syntax.Static, Formula: most(1)}, nil, api.OK}, {formula.Constraint{Kind: syntax.Static, Formula: most()}, nil, api.ErrForm},
		{formula.Constraint{Kind: syntax.Static, Formula: F{Op: syntax.And, Args: []F{most(1, 2, 3, 4, 5, 6, 7, 8), most(9)}}}, nil, api.ErrLimit},
		// Of two errors that of the formula is the first.
		{formula.Constraint{Kind: syntax.Users}, nil, api.ErrArg}, {formula.Constraint{Kind: syntax.Dynamic, Formula: most(1, 64)}, nil, api.ErrRange}, {formula.Constraint{}, nil, api.ErrArg},
	} {
		got, e := scheme.Violation(x.c)
		if e != x.e || !slices.EqualFunc(got, parsed(t, x.want...), cube.Equal) {
			t.Errorf("constraint %d: %q, error %d, not %d", i, texts(got), e, x.e)
		}
	}
}

// P31.6: the changes of plans.
func TestChanges(t *testing.T) {
	s := office(t)
	p, e := scheme.Of(s, []int{1, 2, 3}, 2, nil)
	must(t, p, e)
	other := P{Rules: []R{{Target: 9, Origin: 3}, {Revoke: true, Target: -4, If: C{Yes: bits.Of(1)}, Origin: 2}, {Target: 1, Origin: 5}, {Target: 1, Origin: -1}, {Target: 1, Origin: math.MaxInt}}}
	for _, x := range []struct {
		what      string
		s         *state.State
		untrusted []int
		user      int
		p         P
		plan      []int
		want      []K
		e         api.Errno
	}{
		{"no steps", s, []int{1, 2}, 2, p, nil, nil, api.OK}, {"no steps, nobody, no problem", s, nil, 4, P{}, nil, nil, api.OK},
		{"the least", s, []int{3, 2, 1}, 4, p, []int{0, 1, 2, 3, 0}, []K{assign(1, 4, 2, 3), assign(3, 4, 3, 3), revoke(1, 4, 1), revoke(1, 4, 4), assign(1, 4, 2, 3)}, api.OK},
		{"others", s, []int{3, 2, 4, 2}, 1, p, []int{2, 1, 0}, []K{revoke(2, 1, 1), assign(3, 1, 3, 3), assign(2, 1, 2, 3)}, api.OK},
		{"not registered", s, []int{0, -1, 99, math.MaxInt, 2}, 1, p, []int{0}, []K{assign(2, 1, 2, 3)}, api.OK},
		// The rule of the problem says what is done, that of the state by whom.
		{"other rules", s, []int{2, 3}, 1, other, []int{0, 1}, []K{assign(2, 1, 9, 3), revoke(3, 1, -4)}, api.OK},
		{"no state", nil, []int{1}, 0, p, []int{9}, nil, api.ErrArg},
		{"no user 0", s, []int{1}, 0, p, []int{9}, nil, api.ErrNone}, {"no user 5", s, nil, 5, p, nil, nil, api.ErrNone}, {"no user -1", s, nil, -1, p, nil, nil, api.ErrNone}, {"nobody", state.New(), nil, 1, p, nil, nil, api.ErrNone},
		{"no rule -1", s, []int{1}, 2, p, []int{0, -1}, nil, api.ErrNone}, {"no rule 4", s, []int{1}, 2, p, []int{4}, nil, api.ErrNone}, {"no rule", s, []int{1}, 2, P{}, []int{0}, nil, api.ErrNone}, {"no such rule", s, nil, 2, p, []int{math.MinInt}, nil, api.ErrNone},
		{"no origin 5", s, []int{1}, 2, other, []int{2}, nil, api.ErrNone}, {"no origin -1", s, []int{1}, 2, other, []int{3}, nil, api.ErrNone}, {"no origin", s, nil, 2, other, []int{4}, nil, api.ErrNone},
		{"no member", s, []int{1, 2}, 2, p, []int{0, 1}, nil, api.ErrDenied}, {"no member", s, []int{3, 2}, 2, p, []int{3}, nil, api.ErrDenied}, {"nobody untrusted", s, nil, 2, p, []int{0}, nil, api.ErrDenied},
		{"nobody registered", s, []int{0, 5, -1}, 2, p, []int{0}, nil, api.ErrDenied},
		{"denied, then no rule", s, []int{3}, 2, p, []int{1, 0, 9}, nil, api.ErrDenied}, {"no rule, then denied", s, []int{3}, 2, p, []int{1, 9, 0}, nil, api.ErrNone},
		{"membership has ended", after(t, s, day(4)), []int{3}, 2, p, []int{1}, nil, api.ErrDenied}, {"another day", after(t, s, day(9)), []int{2}, 2, p, []int{0}, []K{assign(2, 2, 2, 9)}, api.OK},
		{"day 0", registeredRules(t), []int{1}, 1, P{Rules: []R{{Target: 1}}}, []int{0}, []K{assign(1, 1, 1, 0)}, api.OK},
	} {
		before := slices.Clone(x.untrusted)
		got, e := scheme.Changes(x.s, x.untrusted, x.user, x.p, x.plan)
		if e != x.e || !slices.Equal(got, x.want) || !slices.Equal(x.untrusted, before) {
			t.Errorf("%s: %+v, error %d; not %+v, error %d", x.what, got, e, x.want, x.e)
		}
	}
}

// registeredRules returns a state on day 0 with a rule that user 1 may use.
func registeredRules(t *testing.T) *state.State {
	t.Helper()
	return after(t, registered(t, "ann", "clerk", "hr"), appoint(1, 2, 9), setRules("assign clerk by hr;"))
}

// P31.6, P31.8: random plans of random states are accepted, and do what Run says.
func TestPlans(t *testing.T) {
	r := rand.New(rand.NewSource(318))
	long, renewed := 0, 0
	for range 2500 {
		s := random(t, r)
		untrusted, user := group(r, s), 1+r.Intn(s.Users())
		p, e := scheme.Of(s, untrusted, user, nil)
		if e != api.OK || len(p.Rules) == 0 {
			continue
		}
		var plan []int
		set := p.Start
		for range 30 {
			k := r.Intn(len(p.Rules))
			if next, ok := scheme.Step(p, set, k); ok {
				plan, set = append(plan, k), next
			}
		}
		l, e := scheme.Changes(s, untrusted, user, p, plan)
		must(t, l, e)
		for i, k := range plan {
			by := slices.DeleteFunc(slices.Sorted(slices.Values(untrusted)), func(u int) bool { return !memberOf(s.Parts(), u, s.Parts().Rules[p.Rules[k].Origin].Admin) })[0]
			want := assign(by, user, p.Rules[k].Target, 5)
			if p.Rules[k].Revoke {
				want = revoke(by, user, p.Rules[k].Target)
			}
			if l[i] != want {
				t.Fatalf("step %d: %+v, not %+v", k, l[i], want)
			}
			if _, old := s.Parts().Members.Until(user, p.Rules[k].Target); old && !p.Rules[k].Revoke {
				renewed++
			}
		}
		end, at, e := change.All(s, l)
		if e != api.OK {
			t.Fatalf("%+v: change %d, %s: error %d", p, at, change.Text(l[at]), e)
		}
		ran, n, ok := scheme.Run(p, plan)
		if !ok || n != len(plan) || !ran.Equal(set) || !end.Explicit(user).And(end.Regular()).Equal(ran) {
			t.Fatalf("%+v: plan %v leads to %s, not %s", p, plan, ran.Text(), end.Explicit(user).Text())
		}
		if len(plan) > 3 {
			long++
		}
	}
	if long < 150 || renewed < 100 {
		t.Errorf("%d long plans, %d renewed assignments", long, renewed)
	}
}

// P31.4, P31.8: whatever untrusted users can assign and revoke is a step, or leaves the explicit roles as they are.
func TestNothingElse(t *testing.T) {
	r := rand.New(rand.NewSource(3144))
	steps, same := 0, 0
	for range 800 {
		s := random(t, r)
		untrusted, user := group(r, s), 1+r.Intn(s.Users())
		p, e := scheme.Of(s, untrusted, user, nil)
		if e != api.OK {
			continue
		}
		for _, by := range untrusted {
			for role := range s.Regular().All() {
				for _, c := range []K{assign(by, user, role, 5), assign(by, user, role, 7), assign(by, user, role, 30000), revoke(by, user, role)} {
					next, e := change.Apply(s, c)
					if e != api.OK {
						continue
					}
					now := next.Explicit(user).And(next.Regular())
					possible := slices.ContainsFunc(numbers(len(p.Rules)), func(n int) bool {
						set, ok := scheme.Step(p, p.Start, n-1)
						return ok && set.Equal(now)
					})
					if !possible && !now.Equal(p.Start) {
						t.Fatalf("%+v: %s leads from %s to %s", p, change.Text(c), p.Start.Text(), now.Text())
					}
					if possible {
						steps++
					} else {
						same++
					}
				}
			}
		}
	}
	if steps < 500 || same < 100 {
		t.Errorf("%d changes are steps, %d change nothing", steps, same)
	}
}

// P31.8, DOC.md: examples 2 to 4.
func TestAgainstHR(t *testing.T) {
	s := after(t, registered(t, "ann bob", "clerk auditor", "hr"), appoint(1, 3, 30000), setRules("assign clerk by hr; assign auditor by hr if not clerk;"), setConstraints("declare static sod: not (clerk and auditor);"))
	goal, e := scheme.Violation(s.Parts().Constraints[0])
	must(t, goal, e)
	p, e := scheme.Of(s, []int{1}, 2, goal)
	must(t, p, e)
	if set, _, ok := scheme.Run(p, []int{1, 0}); !ok || !scheme.Reached(p, set) {
		t.Errorf("auditor, then clerk: %s, %v", set.Text(), ok)
	}
	if set, n, ok := scheme.Run(p, []int{0, 1}); ok || n != 1 || scheme.Reached(p, set) {
		t.Errorf("clerk, then auditor: %s, %d, %v", set.Text(), n, ok)
	}
	// Enforced, the second step of the plan is refused.
	s = after(t, s, setConstraints("enforce static sod: not (clerk and auditor);"))
	p, e = scheme.Of(s, []int{1}, 2, goal)
	must(t, p, e)
	if set, n, ok := scheme.Run(p, []int{1, 0}); ok || n != 1 || set.Text() != "{2}" {
		t.Errorf("enforced: %s, %d, %v", set.Text(), n, ok)
	}
	l, e := scheme.Changes(s, []int{1}, 2, p, []int{1, 0})
	must(t, l, e)
	if _, at, e := change.All(s, l); at != 1 || e != api.ErrConflict {
		t.Errorf("enforced: change %d, error %d", at, e)
	}
	// Another last day is permitted, but no step.
	s = after(t, s, appoint(2, 2, 9))
	p, e = scheme.Of(s, []int{1}, 2, goal)
	must(t, p, e)
	if next := after(t, s, assign(1, 2, 2, 7)); !next.Explicit(2).Equal(s.Explicit(2)) {
		t.Error("another last day changes the roles")
	}
	if _, ok := scheme.Step(p, p.Start, 1); ok {
		t.Error("another last day is a step")
	}
	if next := after(t, s, dismiss(2, 2), assign(1, 2, 1, 0)); next.Explicit(2).Text() != "{1}" {
		t.Errorf("the other way: %s", next.Explicit(2).Text())
	}
}

// P31.4: the links of a problem are those of the state, also where it has none.
func TestNoLinks(t *testing.T) {
	p, e := scheme.Of(registeredRules(t), []int{1}, 1, nil)
	if e != api.OK || !p.Links.Equal(hierarchy.New()) || p.Roles != 2 || len(p.Rules) != 1 || len(p.Never) > 0 {
		t.Errorf("%+v, error %d", p, e)
	}
}
