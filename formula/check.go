package formula

import (
	"slices"

	"arbac/api"
	"arbac/names"
	"arbac/syntax"
)

// maxNumber is the greatest number in a formula.
const maxNumber = 999999

// TypeOf returns the type of a formula.
func TypeOf(f Formula) (Type, api.Errno) {
	if e := firstError(f, checkNode); e != api.OK {
		return 0, e
	}
	return typeOf(f.Op), api.OK
}

// Check returns the error of a formula of a kind.
func Check(f Formula, k syntax.Kind) api.Errno {
	if !isKind(k) {
		return api.ErrArg
	}
	e := firstError(f, func(x Formula) api.Errno {
		if e := checkNode(x); e != api.OK {
			return e
		}
		return checkKind(x.Op, k)
	})
	switch {
	case e != api.OK:
		return e
	case typeOf(f.Op) != Bool:
		return api.ErrType
	case k != syntax.Users && Mentioned(f).Len() > api.MaxMentioned:
		return api.ErrLimit
	}
	return api.OK
}

// CheckConstraint returns the error of a constraint.
func CheckConstraint(c Constraint) api.Errno {
	switch {
	case !isKind(c.Kind):
		return api.ErrArg
	case !names.Valid(c.Name):
		return api.ErrName
	}
	return Check(c.Formula, c.Kind)
}

// firstError returns the first error of the limits, of the operators as check finds them, and of the types of operands.
func firstError(f Formula, check func(Formula) api.Errno) api.Errno {
	if tooLarge(f) {
		return api.ErrLimit
	}
	for x := range nodes(f) {
		if e := check(x); e != api.OK {
			return e
		}
	}
	for x := range nodes(f) {
		_, need := operands(x.Op)
		if slices.ContainsFunc(x.Args, func(a Formula) bool { return typeOf(a.Op) != need }) {
			return api.ErrType
		}
	}
	return api.OK
}

// tooLarge reports whether a formula exceeds a limit. It looks at no more of it than that takes.
func tooLarge(f Formula) bool {
	n := 0
	for _, depth := range nodes(f) {
		n++
		if depth > api.MaxNesting || n > api.MaxNodes {
			return true
		}
	}
	return false
}

// checkNode returns the error of an operator, without its operands.
func checkNode(f Formula) api.Errno {
	if f.Op < syntax.Number || f.Op > syntax.Add {
		return api.ErrArg
	}
	args, _ := operands(f.Op)
	least, most := roleLimits(f.Op)
	switch {
	case len(f.Args) != args:
		return api.ErrArg
	case f.N != 0 && f.Op != syntax.Number || len(f.Roles) < least || len(f.Roles) > most:
		return api.ErrForm
	case f.N < 0 || f.N > maxNumber || slices.ContainsFunc(f.Roles, func(r int) bool { return r < 1 || r > api.MaxRoles }):
		return api.ErrRange
	case repeats(f.Roles):
		return api.ErrExists
	}
	return api.OK
}

// checkKind returns the error of an operator that constraints of a kind do not have.
func checkKind(o syntax.Op, k syntax.Kind) api.Errno {
	switch o {
	case syntax.Role, syntax.Count:
		if k == syntax.Users {
			return api.ErrType
		}
	case syntax.Members:
		if k != syntax.Users {
			return api.ErrType
		}
	}
	return api.OK
}

// typeOf returns the type of formulas with an operator.
func typeOf(o syntax.Op) Type {
	switch o {
	case syntax.Number, syntax.Count, syntax.Members, syntax.Add:
		return Int
	}
	return Bool
}

// operands returns how many operands an operator has, and their type, if there are any.
func operands(o syntax.Op) (int, Type) {
	switch o {
	case syntax.Not:
		return 1, Bool
	case syntax.And, syntax.Or, syntax.Implies:
		return 2, Bool
	case syntax.Le, syntax.Lt, syntax.Ge, syntax.Gt, syntax.Eq, syntax.Add:
		return 2, Int
	}
	return 0, 0
}

// roleLimits returns how many roles an operator has at least and at most.
func roleLimits(o syntax.Op) (int, int) {
	switch o {
	case syntax.Role, syntax.Members:
		return 1, 1
	case syntax.Count:
		return 1, api.MaxMentioned
	}
	return 0, 0
}

// repeats reports whether some role is twice in a list.
func repeats(l []int) bool {
	for i, r := range l {
		if slices.Contains(l[:i], r) {
			return true
		}
	}
	return false
}

// isKind reports whether a kind is one.
func isKind(k syntax.Kind) bool {
	return k >= syntax.Static && k <= syntax.Users
}
