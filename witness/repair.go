package witness

import (
	"slices"

	"arbac/api"
	"arbac/bits"
	"arbac/cube"
	"arbac/formula"
	"arbac/hierarchy"
	"arbac/normal"
)

// maxChoice is the greatest number of roles among which those of a repair are chosen.
const maxChoice = 12

// Repairs returns all smallest sets of explicit roles without which there is no violation.
func Repairs(f formula.Formula, explicit bits.Set, h *hierarchy.Hierarchy) ([]bits.Set, api.Errno) {
	if h == nil || !areRoles(explicit) {
		return nil, api.ErrArg
	}
	return mend(f, h, explicit, func(s bits.Set) bits.Set { return explicit.Minus(s) })
}

// Additions returns all smallest sets of further roles with which there is no violation.
func Additions(f formula.Formula, explicit, from bits.Set, h *hierarchy.Hierarchy) ([]bits.Set, api.Errno) {
	if h == nil || !areRoles(explicit) || !areRoles(from) {
		return nil, api.ErrArg
	}
	return mend(f, h, from.Minus(explicit), func(s bits.Set) bits.Set { return explicit.Or(s) })
}

// areRoles reports whether all members of a set are numbers of roles.
func areRoles(s bits.Set) bool { return s.Within(bits.Below(api.MaxRoles + 1).Without(0)) }

// mend returns the smallest sets among some roles such that the explicit roles after a change by them violate nothing.
func mend(f formula.Formula, h *hierarchy.Hierarchy, choice bits.Set, after func(bits.Set) bits.Set) ([]bits.Set, api.Errno) {
	violations, e := normal.Violations(f)
	switch {
	case e != api.OK:
		return nil, e
	case choice.Len() > maxChoice:
		return nil, api.ErrLimit
	}
	l := smallest(choice, func(s bits.Set) bool { return !cube.Some(violations, h.Closure(after(s))) })
	if len(l) == 0 {
		return nil, api.ErrNone
	}
	return l, api.OK
}

// smallest returns the subsets of a set of roles that pass a test and have the least number of members, ascending.
func smallest(over bits.Set, passes func(bits.Set) bool) []bits.Set {
	for level := []bits.Set{{}}; len(level) > 0; level = larger(level, over) {
		found := slices.DeleteFunc(slices.Clone(level), func(s bits.Set) bool { return !passes(s) })
		if len(found) > 0 {
			return found
		}
	}
	return nil
}

// larger returns the subsets of over with one member more than those of an ascending list of all with equally many.
func larger(level []bits.Set, over bits.Set) []bits.Set {
	var next []bits.Set
	for _, s := range level {
		// Further members are greater ones, so that each set comes once, and the list is ascending again.
		// The greatest member of the empty set is told as 0, which is no role.
		greatest, _ := s.Greatest()
		for r := range over.All() {
			if r > greatest {
				next = append(next, s.With(r))
			}
		}
	}
	return next
}
