package syntax

import (
	"slices"

	"arbac/api"
	"arbac/names"
)

// maxNumber is the greatest number that has a text.
const maxNumber = 999999

// shape is what an operator has: its operands, and at least and at most how many names.
type shape struct {
	args, least, most int
}

// shapes are those of the operators, by their numbers; the first one is that of no operator.
var shapes = [...]shape{
	{},
	{0, 0, 0}, {0, 0, 0}, {0, 0, 0},
	{0, 1, 1}, {0, 1, api.MaxMentioned}, {0, 1, 1},
	{1, 0, 0}, {2, 0, 0}, {2, 0, 0}, {2, 0, 0},
	{2, 0, 0}, {2, 0, 0}, {2, 0, 0}, {2, 0, 0}, {2, 0, 0}, {2, 0, 0},
}

// CheckExpr returns the error of the form of an expression.
func CheckExpr(e Expr) api.Errno {
	if tooLarge(e) {
		return api.ErrLimit
	}
	for x := range nodes(e) {
		if err := checkNode(x); err != api.OK {
			return err
		}
	}
	return api.OK
}

// Check returns the error of the form of constraints.
func Check(l []Constraint) api.Errno {
	if len(l) > api.MaxConstraints {
		return api.ErrLimit
	}
	for i, c := range l {
		if e := checkOne(c, l[:i]); e != api.OK {
			return e
		}
	}
	if len(text(l)) > api.MaxSource {
		return api.ErrLimit
	}
	return api.OK
}

// checkOne returns the error of a constraint behind those before it.
func checkOne(c Constraint, before []Constraint) api.Errno {
	switch {
	case c.Kind < Static || c.Kind > Users:
		return api.ErrArg
	case !names.Valid(c.Name):
		return api.ErrName
	case slices.ContainsFunc(before, func(d Constraint) bool { return d.Name == c.Name }):
		return api.ErrExists
	}
	return CheckExpr(c.Expr)
}

// tooLarge reports whether an expression exceeds a limit. It looks at no more of it than that takes.
func tooLarge(e Expr) bool {
	n := 0
	for _, depth := range nodes(e) {
		n++
		if depth > api.MaxNesting || n > api.MaxNodes {
			return true
		}
	}
	return false
}

// checkNode returns the error of an operator, without its operands.
func checkNode(e Expr) api.Errno {
	if e.Op < Number || e.Op > Add {
		return api.ErrArg
	}
	s := shapes[e.Op]
	switch {
	case len(e.Args) != s.args:
		return api.ErrArg
	case e.N != 0 && e.Op != Number || len(e.Names) < s.least || len(e.Names) > s.most:
		return api.ErrForm
	case slices.ContainsFunc(e.Names, func(s string) bool { return !names.Valid(s) }):
		return api.ErrName
	case repeats(e.Names):
		return api.ErrExists
	case e.N < 0 || e.N > maxNumber:
		return api.ErrRange
	}
	return api.OK
}

// repeats reports whether some name is twice in a list.
func repeats(l []string) bool {
	for i, s := range l {
		if slices.Contains(l[:i], s) {
			return true
		}
	}
	return false
}
