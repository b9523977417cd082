package change_test

import (
	"fmt"
	"maps"
	"math/rand"
	"slices"
	"strings"
	"testing"

	"arbac/api"
	"arbac/bits"
	"arbac/change"
	"arbac/formula"
	"arbac/grant"
	"arbac/hierarchy"
	"arbac/meaning"
	"arbac/membership"
	"arbac/names"
	"arbac/parser"
	"arbac/permission"
	"arbac/rule"
	"arbac/session"
	"arbac/state"
	"arbac/syntax"
)

// model is a state, as the chapters describe it: lists and sets that are gone through one by one.
type model struct {
	day          int
	users, roles []string
	admin        map[int]bool
	links        map[[2]int]bool      // senior, junior
	until        map[[2]int]int       // user, role
	grants       map[grant.Entry]bool // any
	owner        map[int]int          // session: user
	active       map[[2]int]bool      // session, role
	rules        []rule.Rule          // as rule.Parse has them
	constraints  []formula.Constraint // as formula.ResolveAll has them
}

func newModel() *model {
	return &model{
		admin: map[int]bool{}, links: map[[2]int]bool{}, until: map[[2]int]int{}, grants: map[grant.Entry]bool{},
		owner: map[int]int{}, active: map[[2]int]bool{},
	}
}

func (m *model) clone() *model {
	n := *m
	n.users, n.roles = slices.Clone(m.users), slices.Clone(m.roles)
	n.admin, n.links, n.until, n.grants = maps.Clone(m.admin), maps.Clone(m.links), maps.Clone(m.until), maps.Clone(m.grants)
	n.owner, n.active = maps.Clone(m.owner), maps.Clone(m.active)
	return &n
}

// closure adds all that roles imply.
func (m *model) closure(l map[int]bool) map[int]bool {
	out := maps.Clone(l)
	for range m.roles {
		for x := range m.links {
			if out[x[0]] {
				out[x[1]] = true
			}
		}
	}
	return out
}

// member returns the member roles of a user.
func (m *model) member(user int) map[int]bool {
	l := map[int]bool{}
	for x, until := range m.until {
		if x[0] == user && m.day <= until {
			l[x[1]] = true
		}
	}
	return m.closure(l)
}

// effective returns the effective roles of a session.
func (m *model) effective(n int) map[int]bool {
	l, member := map[int]bool{}, m.member(m.owner[n])
	for x := range m.active {
		if x[0] == n && member[x[1]] {
			l[x[1]] = true
		}
	}
	return m.closure(l)
}

// setOf returns a set of roles.
func setOf(l map[int]bool) bits.Set {
	return bits.Of(slices.Collect(maps.Keys(l))...)
}

// breaks returns the violations of enforced static and users constraints: the number of the constraint, and the user or 0.
func (m *model) breaks() map[[2]int]bool {
	counts := make([]int, api.MaxRoles+1)
	for u := range m.users {
		for r := range m.member(u + 1) {
			counts[r]++
		}
	}
	out := map[[2]int]bool{}
	for i, c := range m.constraints {
		if c.Enforce && c.Kind == syntax.Users && !meaning.Holds(c.Formula, bits.Set{}, counts) {
			out[[2]int{i, 0}] = true
		}
		for u := range m.users {
			if c.Enforce && c.Kind == syntax.Static && !meaning.Holds(c.Formula, setOf(m.member(u+1)), nil) {
				out[[2]int{i, u + 1}] = true
			}
		}
	}
	return out
}

// state returns the state that the model describes.
func (m *model) state(t *testing.T) *state.State {
	p := state.Parts{
		Day: m.day, Users: must(names.Of(m.users, 256)), Roles: must(names.Of(m.roles, 63)), Admin: setOf(m.admin), Links: hierarchy.New(),
		Members: membership.New(), Grants: grant.New(), Rules: m.rules, Constraints: m.constraints,
	}
	for x := range m.links {
		p.Links = must(p.Links.Link(x[0], x[1]))
	}
	for x, until := range m.until {
		p.Members = must(p.Members.Assign(x[0], x[1], until))
	}
	for x := range m.grants {
		p.Grants = must(p.Grants.Grant(x.Role, x.Permission))
	}
	sessions := []byte{byte(len(m.owner))}
	for _, n := range slices.Sorted(maps.Keys(m.owner)) {
		l := map[int]bool{}
		for x := range m.active {
			if x[0] == n {
				l[x[1]] = true
			}
		}
		p.Sessions = session.New()
		set := setOf(l).Bytes()
		sessions = append(append(sessions, byte(n), byte(m.owner[n]), byte(len(set))), set...)
	}
	p.Sessions = must(session.Read(sessions))
	return must(state.Of(p))
}

// registered reports whether all users, or roles, are there.
func registered(names []string, l ...int) bool {
	for _, n := range l {
		if n < 1 || n > len(names) {
			return false
		}
	}
	return true
}

// admits returns the error of a change that Check accepts, but for conflicts.
func (m *model) admits(c C) api.Errno {
	_, assigned := m.until[[2]int{c.User, c.Role}]
	_, opened := m.owner[c.Session]
	inactive := !m.active[[2]int{c.Session, c.Role}]
	first := api.OK
	add := func(is bool, e api.Errno) {
		if is && first == api.OK {
			first = e
		}
	}
	name := func(list []string, most int) {
		add(!names.Valid(c.Name), api.ErrName)
		add(slices.Contains(list, c.Name), api.ErrExists)
		add(len(list) >= most, api.ErrFull)
	}
	none := func(is bool) { add(is, api.ErrNone) }
	switch c.Kind {
	case change.AddUser:
		name(m.users, 256)
	case change.AddRole, change.AddAdmin:
		name(m.roles, 63)
	case change.Link, change.Unlink:
		none(!registered(m.roles, c.Role, c.Other))
		add(m.admin[c.Role] != m.admin[c.Other], api.ErrType)
		add(c.Role == c.Other, api.ErrArg)
		there := m.links[[2]int{c.Role, c.Other}]
		add(c.Kind == change.Unlink && !there, api.ErrNone)
		add(c.Kind == change.Link && there, api.ErrExists)
		add(c.Kind == change.Link && m.closure(map[int]bool{c.Other: true})[c.Role], api.ErrCycle)
	case change.Grant, change.Withdraw:
		none(!registered(m.roles, c.Role))
		add(m.admin[c.Role], api.ErrType)
		there := m.grants[grant.Entry{Role: c.Role, Permission: c.Permission}]
		if e := permission.Check(c.Permission); c.Kind == change.Grant {
			add(e != api.OK, e)
			add(there, api.ErrExists)
		} else {
			none(!there)
		}
	case change.Appoint, change.Dismiss:
		none(!registered(m.users, c.User) || !registered(m.roles, c.Role))
		none(c.Kind == change.Dismiss && !assigned)
		add(c.Kind == change.Appoint && (c.Day < m.day || c.Day > 30000), api.ErrRange)
	case change.SetRules:
		_, _, e := rule.Parse(c.Text, must(names.Of(m.roles, 63)), setOf(m.admin))
		add(true, e)
	case change.SetConstraints:
		parsed, _, e := parser.Parse(c.Text)
		add(e != api.OK, e)
		_, _, e = formula.ResolveAll(parsed, must(names.Of(m.roles, 63)), setOf(m.admin))
		add(true, e)
	case change.Assign, change.Revoke:
		none(!registered(m.users, c.By, c.User) || !registered(m.roles, c.Role))
		add(m.admin[c.Role], api.ErrType)
		add(c.Kind == change.Assign && (c.Day < m.day || c.Day > 30000), api.ErrRange)
		none(c.Kind == change.Revoke && (!assigned || m.until[[2]int{c.User, c.Role}] < m.day))
		add(!m.ruled(c), api.ErrDenied)
	case change.Open:
		none(!registered(m.users, c.User))
		add(len(m.owner) >= 64, api.ErrFull)
	case change.Close:
		none(!opened)
	case change.Activate:
		none(!opened || !registered(m.roles, c.Role))
		add(m.admin[c.Role], api.ErrType)
		add(!m.member(m.owner[c.Session])[c.Role], api.ErrDenied)
		add(!inactive, api.ErrExists)
	case change.Deactivate:
		none(!opened || inactive)
	case change.Day:
		add(c.Day < m.day || c.Day > 30000, api.ErrRange)
	}
	return first
}

// ruled reports whether some rule permits an assignment, or a revocation.
func (m *model) ruled(c C) bool {
	has, is := m.member(c.By), m.member(c.User)
	for _, r := range m.rules {
		if r.Revoke != (c.Kind == change.Revoke) || r.Target != c.Role || !has[r.Admin] || !r.When.Has(m.day) {
			continue
		}
		permits := r.Revoke || r.Longest == 0 || c.Day < m.day+r.Longest
		for role := range m.roles {
			role++
			if r.If.Yes.Has(role) && !is[role] || r.If.No.Has(role) && is[role] {
				permits = false
			}
		}
		if permits {
			return true
		}
	}
	return false
}

// make makes a change that admits accepts.
func (m *model) make(c C) {
	assignment := [2]int{c.User, c.Role}
	switch c.Kind {
	case change.AddUser:
		m.users = append(m.users, c.Name)
	case change.AddRole, change.AddAdmin:
		m.roles = append(m.roles, c.Name)
		if c.Kind == change.AddAdmin {
			m.admin[len(m.roles)] = true
		}
	case change.Link:
		m.links[[2]int{c.Role, c.Other}] = true
	case change.Unlink:
		delete(m.links, [2]int{c.Role, c.Other})
	case change.Grant:
		m.grants[grant.Entry{Role: c.Role, Permission: c.Permission}] = true
	case change.Withdraw:
		delete(m.grants, grant.Entry{Role: c.Role, Permission: c.Permission})
	case change.Appoint, change.Assign:
		m.until[assignment] = c.Day
	case change.Dismiss, change.Revoke:
		delete(m.until, assignment)
	case change.SetRules:
		m.rules, _, _ = rule.Parse(c.Text, must(names.Of(m.roles, 63)), setOf(m.admin))
	case change.SetConstraints:
		parsed, _, _ := parser.Parse(c.Text)
		m.constraints, _, _ = formula.ResolveAll(parsed, must(names.Of(m.roles, 63)), setOf(m.admin))
	case change.Open:
		n := 1
		for m.owner[n] != 0 {
			n++
		}
		m.owner[n] = c.User
	case change.Close:
		delete(m.owner, c.Session)
		maps.DeleteFunc(m.active, func(x [2]int, _ bool) bool { return x[0] == c.Session })
	case change.Activate:
		m.active[[2]int{c.Session, c.Role}] = true
	case change.Deactivate:
		delete(m.active, [2]int{c.Session, c.Role})
	case change.Day:
		m.day = c.Day
	}
}

// apply returns the model after a change, or the error.
func (m *model) apply(c C) (*model, api.Errno) {
	if e := change.Check(c); e != api.OK {
		return m, e
	}
	if e := m.admits(c); e != api.OK {
		return m, e
	}
	n := m.clone()
	n.make(c)
	switch c.Kind {
	case change.Link, change.Unlink, change.Appoint, change.Dismiss, change.Assign, change.Revoke:
		old := m.breaks()
		for x := range n.breaks() {
			if !old[x] {
				return m, api.ErrConflict
			}
		}
	case change.Activate:
		was, is := setOf(m.effective(c.Session)), setOf(n.effective(c.Session))
		for _, x := range m.constraints {
			if x.Enforce && x.Kind == syntax.Dynamic && meaning.Holds(x.Formula, was, nil) && !meaning.Holds(x.Formula, is, nil) {
				return m, api.ErrConflict
			}
		}
	}
	return n, api.OK
}

// pick returns one of a list.
func pick[T any](r *rand.Rand, l ...T) T { return l[r.Intn(len(l))] }

// name returns the name of a role of a kind; now and then, of another one, or of none.
func (m *model) name(r *rand.Rand, admin bool) string {
	l := []string{"nobody"}
	for i, s := range m.roles {
		if m.admin[i+1] == admin || r.Intn(30) == 0 {
			l = append(l, s, s, s, s, s, s, s, s)
		}
	}
	return pick(r, l...)
}

// someRules and someConstraints return sources.
func someRules(r *rand.Rand, m *model) string {
	var l []string
	for range r.Intn(9) {
		s := "assign " + m.name(r, false) + " by " + m.name(r, true)
		if r.Intn(2) == 0 {
			s = strings.Replace(s, "assign", "revoke", 1)
		} else {
			s += pick(r, "", " if "+m.name(r, false), " if not "+m.name(r, false))
		}
		s += pick(r, "", "", fmt.Sprintf(" on %d-", r.Intn(20)), fmt.Sprintf(" on 0-%d", r.Intn(20)))
		if s[0] == 'a' {
			s += pick(r, "", "", " for 4")
		}
		if r.Intn(30) > 0 {
			s += ";"
		}
		l = append(l, s)
	}
	return strings.Join(l, "\n")
}

func someConstraints(r *rand.Rand, m *model) string {
	var l []string
	for i := range r.Intn(5) {
		kind, a, b := pick(r, "static", "static", "dynamic", "dynamic", "users"), m.name(r, false), m.name(r, false)
		s := pick(r, "not ("+a+" and "+b+")", a+" -> "+b, "count("+a+", "+b+") <= 1", a)
		if kind == "users" {
			s = "members(" + a + ") " + pick(r, "<=", ">=", "==") + " " + pick(r, "0", "1", "1", "2")
		}
		l = append(l, fmt.Sprintf("%s %s c%d: %s;", pick(r, "enforce", "enforce", "enforce", "declare"), kind, i, s))
	}
	return strings.Join(l, "\n")
}

// someChange returns a change that a model may accept, or not.
func someChange(r *rand.Rand, m *model) C {
	role, user := r.Intn(len(m.roles)+2), r.Intn(len(m.users)+2)
	last := m.day + r.Intn(12) - 1
	at := 1 + r.Intn(4)
	someone := func() int { return r.Intn(len(m.users) + 2) }
	c := pick(r,
		addUser(fmt.Sprintf("u%d", 1+r.Intn(5))), addRole(fmt.Sprintf("r%d", 1+r.Intn(6))), addAdmin(pick(r, "a1", "a2", "a3", "r1", "by")),
		link(role, r.Intn(len(m.roles)+2)), link(role, r.Intn(len(m.roles)+2)), unlink(role, r.Intn(len(m.roles)+2)),
		grants(role, may(pick(r, "read", "write", "by"), pick(r, "/a", "/a", "/", "a"), r.Intn(2) == 0)), withdraw(role, may("read", pick(r, "/", "/a"), r.Intn(2) == 0)),
		appoint(user, role, last), appoint(user, role, last+10), dismiss(user, role), setRules(someRules(r, m)), setConstraints(someConstraints(r, m)),
		assign(someone(), user, role, last), assign(someone(), user, role, last+2), assign(someone(), user, role, last), revoke(someone(), user, role), revoke(someone(), user, role), revoke(someone(), user, role), revoke(someone(), user, role),
		open(user), closes(at), activate(at, role), activate(at, role), activate(at, role), deactivate(at, role), day(m.day+pick(r, 0, 0, 0, 0, 0, 0, 1, 2, -1)),
	)
	if r.Intn(50) == 0 {
		c = set(c, pick(r, append([]string{"Name", "Text", "Action", "Path", "Deep"}, numbers...)...), pick(r, -1, 0, 1, 1000001))
	}
	if r.Intn(8) > 0 {
		m.aim(r, &c)
	}
	return c
}

// aim replaces the numbers of a change by such that it has better chances.
func (m *model) aim(r *rand.Rand, c *C) {
	order := func(a, b [2]int) int { return slices.Compare(a[:], b[:]) }
	switch {
	case change.Administrative(*c):
		for _, i := range r.Perm(len(m.rules)) {
			if x := m.rules[i]; x.Revoke == (c.Kind == change.Revoke) {
				c.Role = x.Target
				m.aimUsers(c, x.Admin)
			}
		}
	case len(m.until) > 0 && c.Kind == change.Dismiss:
		x := pick(r, slices.SortedFunc(maps.Keys(m.until), order)...)
		c.User, c.Role = x[0], x[1]
	case len(m.links) > 0 && c.Kind == change.Unlink:
		x := pick(r, slices.SortedFunc(maps.Keys(m.links), order)...)
		c.Role, c.Other = x[0], x[1]
	case len(m.active) > 0 && c.Kind == change.Deactivate:
		x := pick(r, slices.SortedFunc(maps.Keys(m.active), order)...)
		c.Session, c.Role = x[0], x[1]
	case len(m.owner) > 0 && c.Kind == change.Activate:
		c.Session = pick(r, slices.Sorted(maps.Keys(m.owner))...)
		if l := slices.Sorted(maps.Keys(m.member(m.owner[c.Session]))); len(l) > 0 {
			c.Role = pick(r, l...)
		}
	}
}

// aimUsers makes By a user who has an administrative role, and the user of a revocation one who has the role.
func (m *model) aimUsers(c *C, admin int) {
	for u := range m.users {
		if m.member(u + 1)[admin] {
			c.By = u + 1
		}
		if _, assigned := m.until[[2]int{u + 1, c.Role}]; assigned && c.Kind == change.Revoke {
			c.User = u + 1
		}
	}
}

// P25.2 and P25.4: long lists of changes, compared with a model step by step.
func TestModel(t *testing.T) {
	r := rand.New(rand.NewSource(252))
	seen := map[string]int{}
	for range 300 {
		m, s := newModel(), state.New()
		first := []C{addUser("u1"), addUser("u2"), addRole("r1"), addRole("r2"), addRole("r3"), addAdmin("a1"), addRole("r4"), addAdmin("a2"), appoint(1, 4, 30), appoint(2, 6, 20), addUser("u3")}
		for _, c := range first[:min(len(first), r.Intn(30))] {
			m, _ = m.apply(c)
			s = after(t, s, c)
		}
		for range 150 {
			c := someChange(r, m)
			before := s.Bytes()
			model, want := m.apply(c)
			got, e := change.Apply(s, c)
			seen[fmt.Sprint(kinds[c.Kind].name, " ", e)]++
			if e != want || (got == nil) != (e != api.OK) {
				t.Fatalf("%+v on %+v: error %d, not %d", c, m, e, want)
			}
			if !slices.Equal(s.Bytes(), before) {
				t.Fatalf("%+v has changed the state", c)
			}
			if e != api.OK {
				continue
			}
			if !got.Equal(model.state(t)) {
				t.Fatalf("%+v on %+v: %+v", c, m, got.Parts())
			}
			worse(t, s, got, c)
			m, s = model, got
		}
	}
	for k, want := range map[change.Kind][]api.Errno{
		change.AddUser: {api.ErrExists}, change.AddRole: {api.ErrExists}, change.AddAdmin: {api.ErrName, api.ErrExists},
		change.Link: {api.ErrNone, api.ErrType, api.ErrArg, api.ErrExists, api.ErrCycle, api.ErrConflict}, change.Unlink: {api.ErrNone, api.ErrType, api.ErrArg, api.ErrConflict},
		change.Grant: {api.ErrNone, api.ErrType, api.ErrName, api.ErrForm, api.ErrExists}, change.Withdraw: {api.ErrNone, api.ErrType},
		change.Appoint: {api.ErrNone, api.ErrRange, api.ErrConflict}, change.Dismiss: {api.ErrNone, api.ErrConflict},
		change.SetRules: {api.ErrSyntax, api.ErrName, api.ErrType}, change.SetConstraints: {api.ErrName, api.ErrExists},
		change.Assign: {api.ErrNone, api.ErrType, api.ErrRange, api.ErrDenied, api.ErrConflict}, change.Revoke: {api.ErrNone, api.ErrType, api.ErrDenied, api.ErrConflict},
		change.Open: {api.ErrNone}, change.Close: {api.ErrNone}, change.Activate: {api.ErrNone, api.ErrType, api.ErrDenied, api.ErrExists, api.ErrConflict}, change.Deactivate: {api.ErrNone}, change.Day: {api.ErrRange},
	} {
		for _, e := range append(want, api.OK) {
			if n := seen[fmt.Sprint(kinds[k].name, " ", e)]; n < 5 {
				t.Errorf("%s: error %d only %d times", kinds[k].name, e, n)
			}
		}
	}
}

// worse checks that a change brings no violation of an enforced static constraint, unless it is of a kind that may.
func worse(t *testing.T, s, next *state.State, c C) {
	t.Helper()
	if c.Kind == change.SetConstraints || c.Kind == change.Day || c.Kind == change.AddUser {
		return
	}
	l := s.Parts().Constraints
	for _, v := range next.Violations() {
		if l[v.Constraint].Enforce && l[v.Constraint].Kind == syntax.Static && !slices.Contains(s.Violations(), v) {
			t.Fatalf("%+v brings the violation %v", c, v)
		}
	}
}
