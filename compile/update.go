package compile

import (
	"slices"

	"arbac/bits"
	"arbac/state"
)

// Update returns the table of a state, and how many rows were computed anew.
func (t *Table) Update(s *state.State) (*Table, int) {
	switch {
	case s == nil:
		return nil, 0
	case t == nil:
		t = new(Table)
	}
	next := *t
	next.state = s
	was, is := t.state.Parts(), s.Parts()
	// In this order: users have other member roles if what they are assigned implies other
	// roles, and sessions other effective roles if their users have other member roles.
	n := next.updateRoles(was, is)
	changed := differing(t.juniors[:], next.juniors[:])
	n += next.updateUsers(t, changed)
	n += next.updateSessions(t, was, is, changed)
	rows := regranted(was.Grants, is.Grants)
	next.objects = next.objects.with(rows)
	return &next, n + len(rows)
}

// updateRoles renews the rows of the roles.
func (t *Table) updateRoles(was, is state.Parts) int {
	relinked := !slices.Equal(was.Links.Links(), is.Links.Links())
	stale := func(role int) bool {
		there := role <= is.Roles.Len()
		return there != (role <= was.Roles.Len()) || there && relinked
	}
	return renew(t.juniors[:], stale, func(role int) bits.Set {
		if role > is.Roles.Len() {
			return bits.Set{}
		}
		return is.Links.Juniors(role)
	})
}

// updateUsers renews the rows of the users; changed are the roles that imply others than in the old table.
func (t *Table) updateUsers(old *Table, changed bits.Set) int {
	stale := func(user int) bool {
		explicit := t.state.Explicit(user)
		return !explicit.Equal(old.state.Explicit(user)) || explicit.Meets(changed)
	}
	return renew(t.member[:], stale, t.state.Member)
}

// updateSessions renews the rows of the sessions; changed are the roles that imply others than in the old table.
func (t *Table) updateSessions(old *Table, was, is state.Parts, changed bits.Set) int {
	stale := func(n int) bool {
		before, _ := was.Sessions.Get(n)
		now, _ := is.Sessions.Get(n)
		active := now.Active.And(t.Member(now.User))
		return now.User != before.User || !active.Equal(before.Active.And(old.Member(before.User))) || active.Meets(changed)
	}
	return renew(t.sessions[:], stale, func(n int) sessionRow {
		now, _ := is.Sessions.Get(n)
		return sessionRow{now.User, t.state.Effective(n)}
	})
}

// renew computes those rows from number 1 on that are stale, and returns how many.
func renew[T any](rows []T, stale func(n int) bool, compute func(n int) T) int {
	count := 0
	for n := 1; n < len(rows); n++ {
		if stale(n) {
			rows[n] = compute(n)
			count++
		}
	}
	return count
}

// differing returns the numbers of the rows that differ.
func differing(a, b []bits.Set) bits.Set {
	var numbers bits.Set
	for n := range a {
		if !a[n].Equal(b[n]) {
			numbers = numbers.With(n)
		}
	}
	return numbers
}
