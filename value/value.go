// Package value has the values of formulas. Normal forms (layer 19) and the meaning of constraints (layer 20) rest on them.
package value

import (
	"arbac/api"
	"arbac/bits"
	"arbac/formula"
	"arbac/syntax"
)

// World is what formulas are about: a set of roles, and how many members each role has.
type World struct {
	Roles   bits.Set
	Members []int
}

// Holds reports whether a formula is true. Its type must be Bool by formula.TypeOf, which bounds its nesting.
func (w World) Holds(f formula.Formula) bool {
	switch f.Op {
	case syntax.True:
		return true
	case syntax.False:
		return false
	case syntax.Role:
		return w.Roles.Has(f.Roles[0])
	case syntax.Not:
		return !w.Holds(f.Args[0])
	case syntax.And:
		return w.Holds(f.Args[0]) && w.Holds(f.Args[1])
	case syntax.Or:
		return w.Holds(f.Args[0]) || w.Holds(f.Args[1])
	case syntax.Implies:
		return !w.Holds(f.Args[0]) || w.Holds(f.Args[1])
	}
	return compare(f.Op, w.number(f.Args[0]), w.number(f.Args[1]))
}

// number returns the value of a formula of the type Int.
func (w World) number(f formula.Formula) int {
	switch f.Op {
	case syntax.Number:
		return f.N
	case syntax.Count:
		return w.count(f.Roles)
	case syntax.Members:
		return w.members(f.Roles[0])
	}
	return w.number(f.Args[0]) + w.number(f.Args[1])
}

// count returns how many of some roles are there.
func (w World) count(roles []int) int {
	n := 0
	for _, r := range roles {
		if w.Roles.Has(r) {
			n++
		}
	}
	return n
}

// members returns how many members a role has. What cannot be such a number counts as 0.
func (w World) members(role int) int {
	if role >= len(w.Members) || w.Members[role] < 0 || w.Members[role] > api.MaxUsers {
		return 0
	}
	return w.Members[role]
}

// compare returns the value of a comparison.
func compare(o syntax.Op, a, b int) bool {
	switch o {
	case syntax.Le:
		return a <= b
	case syntax.Lt:
		return a < b
	case syntax.Ge:
		return a >= b
	case syntax.Gt:
		return a > b
	}
	return a == b
}
