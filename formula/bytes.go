package formula

import (
	"arbac/api"
	"arbac/syntax"
	"arbac/wire"
)

// maxArgs is how many operands an operator has at most.
const maxArgs = 2

// Bytes returns the encoding of a constraint.
func (c Constraint) Bytes() []byte {
	if CheckConstraint(c) != api.OK {
		return nil
	}
	w := wire.NewWriter()
	w.Flag(c.Enforce)
	w.Uint(uint64(c.Kind))
	w.String(c.Name)
	// Each operator stands directly before its operands, as nodes has them.
	for x := range nodes(c.Formula) {
		write(w, x)
	}
	return w.Out()
}

// Read returns the constraint with an encoding.
func Read(p []byte) (Constraint, api.Errno) {
	r := wire.NewReader(p)
	var c Constraint
	c.Enforce = r.Flag()
	c.Kind = syntax.Kind(r.Number(int(syntax.Users)))
	c.Name = r.String(api.MaxName)
	c.Formula = read(r, 1)
	if r.End() != api.OK || CheckConstraint(c) != api.OK {
		return Constraint{}, api.ErrForm
	}
	return c, api.OK
}

// write writes an operator without its operands.
func write(w *wire.Writer, f Formula) {
	w.Uint(uint64(f.Op))
	w.Uint(uint64(f.N))
	w.Uint(uint64(len(f.Roles)))
	for _, r := range f.Roles {
		w.Uint(uint64(r))
	}
	w.Uint(uint64(len(f.Args)))
}

// read reads a formula at some nesting. It is bounded, as bytes may be nested deeper than calls can be.
func read(r *wire.Reader, depth int) Formula {
	if depth > api.MaxNesting {
		r.Fail(api.ErrForm)
	}
	var f Formula
	f.Op = syntax.Op(r.Number(int(syntax.Add)))
	f.N = r.Number(maxNumber)
	for range r.Count(api.MaxMentioned) {
		f.Roles = append(f.Roles, r.Number(api.MaxRoles))
	}
	for range r.Count(maxArgs) {
		f.Args = append(f.Args, read(r, depth+1))
	}
	return f
}
