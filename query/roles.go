package query

import (
	"slices"

	"arbac/api"
	"arbac/bits"
	"arbac/state"
)

// maxGiving is the greatest number of roles that may give some need: Roles tries all sets of them.
const maxGiving = 16

// Roles returns the least of the smallest sets of regular roles that have all needs together.
func Roles(s *state.State, l []Need) ([]int, api.Errno) {
	if s == nil {
		return nil, api.ErrArg
	}
	for _, n := range l {
		if e := Check(n); e != api.OK {
			return nil, e
		}
	}
	sets := wanted(s.Parts(), l)
	var all bits.Set
	for _, roles := range sets {
		if roles.Empty() {
			return nil, api.ErrNone
		}
		all = all.Or(roles)
	}
	if all.Len() > maxGiving {
		return nil, api.ErrLimit
	}
	return smallest(sets, all.List()), api.OK
}

// wanted returns, each once, the sets of roles one of which is needed: for each need those that give it.
func wanted(p state.Parts, l []Need) []bits.Set {
	var sets []bits.Set
	seen := map[Need]bool{}
	for _, n := range l {
		if !seen[n] {
			seen[n] = true
			sets = append(sets, giving(p, n))
		}
	}
	slices.SortFunc(sets, bits.Set.Compare)
	return slices.CompactFunc(sets, bits.Set.Equal)
}

// smallest returns the least of the smallest lists of some roles that have a member of each set.
// The roles are ascending, and all of them together have one.
func smallest(sets []bits.Set, roles []int) []int {
	for n := range roles {
		if found, ok := completed(sets, bits.Set{}, roles, n); ok {
			return found.List()
		}
	}
	return roles
}

// completed returns the set of chosen roles and n of some others, which are ascending, that meets
// all sets of a list; of several such sets the one whose list is the least.
func completed(sets []bits.Set, chosen bits.Set, others []int, n int) (bits.Set, bool) {
	if n == 0 {
		return chosen, !slices.ContainsFunc(sets, func(s bits.Set) bool { return !s.Meets(chosen) })
	}
	for i, role := range others {
		if found, ok := completed(sets, chosen.With(role), others[i+1:], n-1); ok {
			return found, true
		}
	}
	return bits.Set{}, false
}
