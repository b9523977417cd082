package formula

import (
	"arbac/api"
	"arbac/bits"
	"arbac/names"
	"arbac/syntax"
)

// Resolve returns the formula of an expression.
func Resolve(e syntax.Expr, k syntax.Kind, roles *names.Table, admin bits.Set) (Formula, api.Errno) {
	if roles == nil || !isKind(k) {
		return Formula{}, api.ErrArg
	}
	if err := syntax.CheckExpr(e); err != api.OK {
		return Formula{}, err
	}
	for _, s := range syntax.Names(e) {
		if n, ok := roles.Number(s); !ok || admin.Has(n) {
			return Formula{}, api.ErrName
		}
	}
	f := numbered(e, roles)
	if err := Check(f, k); err != api.OK {
		return Formula{}, err
	}
	return f, api.OK
}

// ResolveAll returns the constraints of a list.
func ResolveAll(l []syntax.Constraint, roles *names.Table, admin bits.Set) ([]Constraint, int, api.Errno) {
	if roles == nil {
		return nil, 0, api.ErrArg
	}
	if e := syntax.Check(l); e != api.OK {
		return nil, 0, e
	}
	out := make([]Constraint, len(l))
	for i, c := range l {
		f, e := Resolve(c.Expr, c.Kind, roles, admin)
		if e != api.OK {
			return nil, i, e
		}
		out[i] = Constraint{Enforce: c.Enforce, Kind: c.Kind, Name: c.Name, Formula: f}
	}
	return out, 0, api.OK
}

// Syntax returns the expression of a formula.
func Syntax(f Formula, roles *names.Table) (syntax.Expr, api.Errno) {
	if roles == nil {
		return syntax.Expr{}, api.ErrArg
	}
	for x := range places(f) {
		for _, r := range x.Roles {
			if _, ok := roles.Name(r); !ok {
				return syntax.Expr{}, api.ErrName
			}
		}
	}
	// The limits are those of expressions; what exceeds them may have no end.
	if tooLarge(f) {
		return syntax.Expr{}, api.ErrLimit
	}
	e := named(f, roles)
	if err := syntax.CheckExpr(e); err != api.OK {
		return syntax.Expr{}, err
	}
	return e, api.OK
}

// numbered returns an expression whose names have numbers with these.
func numbered(e syntax.Expr, roles *names.Table) Formula {
	f := Formula{Op: e.Op, N: e.N}
	for _, s := range e.Names {
		n, _ := roles.Number(s)
		f.Roles = append(f.Roles, n)
	}
	for _, x := range e.Args {
		f.Args = append(f.Args, numbered(x, roles))
	}
	return f
}

// named returns a formula whose roles have names with these.
func named(f Formula, roles *names.Table) syntax.Expr {
	e := syntax.Expr{Op: f.Op, N: f.N}
	for _, r := range f.Roles {
		s, _ := roles.Name(r)
		e.Names = append(e.Names, s)
	}
	for _, x := range f.Args {
		e.Args = append(e.Args, named(x, roles))
	}
	return e
}
