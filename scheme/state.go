package scheme

import (
	"slices"

	"arbac/api"
	"arbac/bits"
	"arbac/change"
	"arbac/cube"
	"arbac/formula"
	"arbac/normal"
	"arbac/rule"
	"arbac/state"
	"arbac/syntax"
)

// Of returns the problem of a user of a state.
func Of(s *state.State, untrusted []int, user int, goal []cube.Cube) (Problem, api.Errno) {
	switch {
	case s == nil:
		return Problem{}, api.ErrArg
	case !registered(s, user) || !all(untrusted, func(u int) bool { return registered(s, u) }):
		return Problem{}, api.ErrNone
	}
	parts := s.Parts()
	p := Problem{
		Roles: s.Roles(),
		Links: parts.Links,
		Start: s.Explicit(user).And(s.Regular()),
		Rules: usable(s, untrusted),
		Never: never(parts.Constraints),
		Goal:  slices.Clone(goal),
	}
	if !apart(parts.Constraints, changeable(p)) {
		return Problem{}, api.ErrScope
	}
	if e := Check(p); e != api.OK {
		return Problem{}, e
	}
	return p, api.OK
}

// Access returns the goal that a user has a permission for a request.
func Access(s *state.State, action, path string) []cube.Cube {
	var goal []cube.Cube
	// Grants are to regular roles only.
	for r := range s.Parts().Grants.Covering(action, path).All() {
		goal = append(goal, cube.Cube{Yes: bits.Of(r)})
	}
	return goal
}

// Violation returns the goal that a user violates a static constraint.
func Violation(c formula.Constraint) ([]cube.Cube, api.Errno) {
	goal, e := normal.Violations(c.Formula)
	switch {
	case e != api.OK:
		return nil, e
	case c.Kind != syntax.Static:
		return nil, api.ErrType
	}
	return goal, api.OK
}

// Changes returns the changes that make the steps of a plan.
func Changes(s *state.State, untrusted []int, user int, p Problem, plan []int) ([]change.Change, api.Errno) {
	switch {
	case s == nil:
		return nil, api.ErrArg
	case !registered(s, user):
		return nil, api.ErrNone
	}
	rules, by := s.Parts().Rules, leastMembers(s, untrusted)
	var l []change.Change
	for _, k := range plan {
		if !index(k, len(p.Rules)) || !index(p.Rules[k].Origin, len(rules)) {
			return nil, api.ErrNone
		}
		r := p.Rules[k]
		admin, found := by[rules[r.Origin].Admin]
		if !found {
			return nil, api.ErrDenied
		}
		c := change.Change{Kind: change.Revoke, By: admin, User: user, Role: r.Target}
		if !r.Revoke {
			c.Kind, c.Day = change.Assign, s.Day()
		}
		l = append(l, c)
	}
	return l, api.OK
}

// usable returns the rules of a state that a group of users can use.
func usable(s *state.State, group []int) []Rule {
	var admins bits.Set
	for _, u := range group {
		admins = admins.Or(s.Member(u).And(s.Admin()))
	}
	rules := s.Parts().Rules
	var l []Rule
	for _, n := range rule.Usable(rules, admins, s.Day()) {
		r := rules[n]
		l = append(l, Rule{Revoke: r.Revoke, If: r.If, Target: r.Target, Origin: n})
	}
	return l
}

// never returns cubes for what violates an enforced static constraint.
func never(l []formula.Constraint) []cube.Cube {
	var bad []cube.Cube
	for _, c := range l {
		if c.Enforce && c.Kind == syntax.Static {
			violations, _ := normal.Violations(c.Formula) // the state has checked it
			bad = append(bad, violations...)
		}
	}
	return cube.Simple(bad)
}

// changeable returns all roles of which somebody can become, or cease to be, a member by the rules of a problem.
func changeable(p Problem) bits.Set {
	var roles bits.Set
	for _, r := range p.Rules {
		roles = roles.Or(p.Links.Juniors(r.Target))
	}
	return roles
}

// apart reports whether no enforced users constraint mentions any of some roles.
func apart(l []formula.Constraint, roles bits.Set) bool {
	return all(l, func(c formula.Constraint) bool {
		return !c.Enforce || c.Kind != syntax.Users || !formula.Mentioned(c.Formula).Meets(roles)
	})
}

// leastMembers returns the least user of a group who is a member of a role, by roles; there is none for those
// of which nobody is.
func leastMembers(s *state.State, group []int) map[int]int {
	least := map[int]int{}
	for _, u := range group {
		for r := range s.Member(u).All() {
			if by, found := least[r]; !found || u < by {
				least[r] = u
			}
		}
	}
	return least
}

// registered reports whether a number is that of a user of a state.
func registered(s *state.State, user int) bool { return user >= 1 && user <= s.Users() }

// index reports whether a list of n elements has one with a number.
func index(k, n int) bool { return k >= 0 && k < n }
