package change

import (
	"slices"

	"arbac/bits"
	"arbac/formula"
	"arbac/meaning"
	"arbac/state"
	"arbac/syntax"
)

// conflicts reports whether a change, which leads to the state after, breaks an enforced constraint that its kind looks at.
func (d *draft) conflicts(after *state.State, c Change) bool {
	// No change of these kinds changes the constraints.
	switch c.Kind {
	case Link, Unlink, Appoint, Dismiss, Assign, Revoke:
		return len(meaning.New(d.Constraints, d.before.Facts(), after.Facts())) > 0
	case Activate:
		return broken(d.Constraints, d.before.Effective(c.Session), after.Effective(c.Session))
	}
	return false
}

// broken reports whether an enforced dynamic constraint is true of the roles before, and false of those after.
func broken(l []formula.Constraint, before, after bits.Set) bool {
	return slices.ContainsFunc(l, func(c formula.Constraint) bool {
		return c.Enforce && c.Kind == syntax.Dynamic && meaning.Holds(c.Formula, before, nil) && !meaning.Holds(c.Formula, after, nil)
	})
}
