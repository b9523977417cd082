package normal

import (
	"arbac/api"
	"arbac/bits"
	"arbac/cube"
	"arbac/formula"
	"arbac/syntax"
)

// Back returns a formula that is violated by exactly the sets that satisfy one of the cubes.
func Back(l []cube.Cube) (formula.Formula, api.Errno) {
	l, e := checked(l)
	if e != api.OK {
		return formula.Formula{}, e
	}
	f := none(l)
	// A part for a cube of k literals has at most 4k - 1 operators, a nesting of 3, and an And before the next part.
	// So up to 40 literals there are at most 159 operators, with a nesting of 6 + 3.
	if e = formula.Check(f, syntax.Static); e != api.OK {
		return formula.Formula{}, e
	}
	return f, api.OK
}

// none returns a formula for the sets that satisfy no cube of a list. It halves the list, which keeps the nesting small.
func none(l []cube.Cube) formula.Formula {
	switch len(l) {
	case 0:
		return operator(syntax.True)
	case 1:
		return avoided(l[0])
	}
	half := len(l) / 2
	return operator(syntax.And, none(l[:half]), none(l[half:]))
}

// avoided returns a formula for the sets that do not satisfy a cube: fewer roles of Yes are there than all, or some of No are.
func avoided(c cube.Cube) formula.Formula {
	fewer := counted(c.Yes, syntax.Lt, c.Yes.Len())
	some := counted(c.No, syntax.Gt, 0)
	switch {
	case c.Yes.Empty() && c.No.Empty():
		return operator(syntax.False)
	case c.Yes.Empty():
		return some
	case c.No.Empty():
		return fewer
	}
	return operator(syntax.Or, fewer, some)
}

// counted returns the formula that compares how many of some roles are there with a number.
func counted(roles bits.Set, compare syntax.Op, n int) formula.Formula {
	return operator(compare, formula.Formula{Op: syntax.Count, Roles: roles.List()}, formula.Formula{Op: syntax.Number, N: n})
}

// operator returns the formula of an operator with some operands.
func operator(o syntax.Op, args ...formula.Formula) formula.Formula {
	return formula.Formula{Op: o, Args: args}
}
