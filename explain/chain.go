package explain

import (
	"cmp"
	"slices"

	"arbac/api"
	"arbac/bits"
	"arbac/hierarchy"
	"arbac/monitor"
	"arbac/names"
	"arbac/permission"
	"arbac/state"
)

// beyond stands in a text between a role and the one below it, mark behind the role that is
// active in the session, and colon behind the user and behind all roles.
const (
	beyond = " > "
	mark   = " (active)"
	colon  = ": "
)

// facts is what a state tells of a request of an open session.
type facts struct {
	request                    monitor.Request
	parts                      state.Parts
	user                       int
	explicit, active, covering bits.Set
}

// factsOf returns the facts of a request; false if there is no state, the monitor refuses
// the request whatever the state is, or the session is not open.
func factsOf(s *state.State, r monitor.Request) (facts, bool) {
	p := s.Parts()
	open, ok := p.Sessions.Get(r.Session)
	if !ok || monitor.Check(r) != api.OK {
		return facts{}, false
	}
	return facts{r, p, open.User, s.Explicit(open.User), open.Active, p.Grants.Covering(r.Action, r.Path)}, true
}

// through returns the first one of the shortest chains in which an active role is the last one of Up.
func (f facts) through(role int) (Chain, bool) {
	// The two parts have nothing to do with each other, so both are as short as they can be.
	up, member := shortest(f.parts.Links, f.explicit, bits.Of(role))
	down, gives := shortest(f.parts.Links, bits.Of(role), f.covering)
	if !member || !gives {
		return Chain{}, false
	}
	held := f.parts.Grants.Of(last(down)) // ascending
	return Chain{f.user, up, down, held[slices.IndexFunc(held, f.covers)]}, true
}

// covers reports whether a permission covers the request.
func (f facts) covers(p permission.Permission) bool {
	return permission.Covers(p, f.request.Action, f.request.Path)
}

// shortest returns the least of the shortest paths of links from a role of one set to a role of another one.
func shortest(h *hierarchy.Hierarchy, from, to bits.Set) ([]int, bool) {
	var l [][]int
	for senior := range from.All() {
		for junior := range h.Juniors(senior).And(to).All() {
			path, _ := h.Chain(senior, junior) // there is one
			l = append(l, path)
		}
	}
	if len(l) == 0 {
		return nil, false
	}
	return slices.MinFunc(l, comparePaths), true
}

// compare compares two chains with different roles that justify the same request.
func compare(a, b Chain) int {
	return cmp.Or(
		cmp.Compare(len(a.Up)+len(a.Down), len(b.Up)+len(b.Down)),
		slices.Compare(a.Up, b.Up),
		slices.Compare(a.Down, b.Down),
	)
}

// comparePaths compares two paths, first by their length.
func comparePaths(a, b []int) int {
	return cmp.Or(cmp.Compare(len(a), len(b)), slices.Compare(a, b))
}

// linked reports whether a list has roles, and a link leads from each of them to the next one.
func linked(h *hierarchy.Hierarchy, l []int) bool {
	for i := 1; i < len(l); i++ {
		if !slices.Contains(h.Direct(l[i-1]), l[i]) {
			return false
		}
	}
	return len(l) > 0
}

// namesOf returns the names of the roles of a list; false if there are none, or one has no name.
func namesOf(t *names.Table, roles []int) ([]string, bool) {
	var l []string
	for _, role := range roles {
		name, known := t.Name(role)
		if !known {
			return nil, false
		}
		l = append(l, name)
	}
	return l, len(l) > 0
}

// last returns the last element of a list that has one.
func last(l []int) int { return l[len(l)-1] }
