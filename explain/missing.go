package explain

import (
	"arbac/api"
	"arbac/bits"
	"arbac/monitor"
	"arbac/state"
)

// anySession is a number that monitor.Check takes, for requests of no session.
const anySession = 1

// Lacks returns the member roles that the user could activate to be granted the request.
func Lacks(s *state.State, r monitor.Request) []int {
	f, ok := factsOf(s, r)
	if !ok {
		return nil
	}
	idle := s.Member(f.user).And(s.Regular()).Minus(f.active)
	return which(idle, func(role int) bool { return f.parts.Links.Juniors(role).Meets(f.covering) })
}

// Missing returns the least roles each of which alone would give the permission.
func Missing(s *state.State, user int, action, path string) []int {
	valid := monitor.Check(monitor.Request{Session: anySession, Action: action, Path: path}) == api.OK
	if !valid || user < 1 || user > s.Users() || s.Has(user, action, path) {
		return nil
	}
	p := s.Parts()
	covering := p.Grants.Covering(action, path)
	// A role that gives the request without such a grant of its own implies one that has it. So
	// what is left are roles that have it, and imply no other one that has it.
	return which(covering, func(role int) bool { return p.Links.Juniors(role).And(covering).Len() == 1 })
}

// which returns the members of a set of which something is true, ascending.
func which(roles bits.Set, is func(role int) bool) []int {
	var l []int
	for role := range roles.All() {
		if is(role) {
			l = append(l, role)
		}
	}
	return l
}
