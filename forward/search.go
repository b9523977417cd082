package forward

import (
	"slices"

	"arbac/api"
	"arbac/bits"
	"arbac/scheme"
)

// search is a search, breadth first: it knows all sets that are reachable in some number of steps.
type search struct {
	problem scheme.Problem
	limit   int
	// sets has the sets in the order in which they were found. As the rules are tried in their order, this is
	// the order of their shortest plans, of which the least ones count: first by length, then lexicographically.
	sets []reached
	// last is where those sets begin that are not reachable in fewer steps.
	last int
	// seen has the keys of all sets.
	seen map[uint64]bool
}

// reached is a set that was found: by which rule, and from which set. The start was found by none.
type reached struct {
	roles      bits.Set
	rule, from int
}

// begin returns the search that knows the start alone.
func begin(p scheme.Problem, limit int) (*search, api.Errno) {
	if limit < 1 {
		return nil, api.ErrArg
	}
	if e := scheme.Check(p); e != api.OK {
		return nil, e
	}
	return &search{
		problem: p,
		limit:   limit,
		sets:    []reached{{roles: p.Start}},
		seen:    map[uint64]bool{key(p.Start): true},
	}, api.OK
}

// whole returns the search that knows all reachable sets.
func whole(p scheme.Problem, limit int) (*search, api.Errno) {
	s, e := begin(p, limit)
	for e == api.OK && !s.done() {
		e = s.deepen()
	}
	return s, e
}

// done reports whether the last layer has no sets, so that all reachable sets are known.
func (s *search) done() bool { return s.last == len(s.sets) }

// layer returns the sets of the last layer.
func (s *search) layer() []reached { return s.sets[s.last:] }

// deepen finds the sets that are reachable in one step more. ErrLimit: there are too many.
func (s *search) deepen() api.Errno {
	first, next := s.last, len(s.sets)
	for at := first; at < next; at++ {
		for k := range s.problem.Rules {
			set, ok := scheme.Step(s.problem, s.sets[at].roles, k)
			if !ok || s.seen[key(set)] {
				continue
			}
			if len(s.sets) == s.limit {
				return api.ErrLimit
			}
			s.seen[key(set)] = true
			s.sets = append(s.sets, reached{set, k, at})
		}
	}
	s.last = next
	return api.OK
}

// goal returns the first set of the last layer that reaches the goal.
func (s *search) goal() (int, bool) {
	i := slices.IndexFunc(s.layer(), func(x reached) bool { return scheme.Reached(s.problem, x.roles) })
	return s.last + i, i >= 0
}

// plan returns the least of the shortest plans that lead to a set.
func (s *search) plan(at int) []int {
	var plan []int
	for at > 0 {
		plan = append(plan, s.sets[at].rule)
		at = s.sets[at].from
	}
	slices.Reverse(plan)
	return plan
}

// key returns a number that tells sets of roles apart: all roles are below 64.
func key(set bits.Set) uint64 {
	var n uint64
	for r := range set.All() {
		n |= 1 << r
	}
	return n
}
