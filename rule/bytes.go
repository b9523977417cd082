package rule

import (
	"slices"

	"arbac/api"
	"arbac/bits"
	"arbac/cube"
	"arbac/days"
	"arbac/wire"
)

// Bytes returns the encoding of rules.
func Bytes(l []Rule) []byte {
	if len(l) > api.MaxRules || slices.ContainsFunc(l, func(r Rule) bool { return !encodable(r) }) {
		return nil
	}
	w := wire.NewWriter()
	w.Uint(uint64(len(l)))
	for _, r := range l {
		w.Flag(r.Revoke)
		w.Uint(uint64(r.Admin))
		w.Uint(uint64(r.Target))
		w.Set(r.If.Yes)
		w.Set(r.If.No)
		w.String(r.When.Text())
		w.Uint(uint64(r.Longest))
	}
	return w.Out()
}

// Read returns the rules with these bytes.
func Read(p []byte) ([]Rule, api.Errno) {
	r := wire.NewReader(p)
	l := make([]Rule, r.Count(api.MaxRules))
	for i := range l {
		l[i] = read(r)
	}
	if r.End() != api.OK {
		return nil, api.ErrForm
	}
	return l, api.OK
}

// encodable reports whether the numbers of a rule are within the limits of the encoding.
func encodable(r Rule) bool {
	return isCode(r.Admin) && isCode(r.Target) && conditional(r).Within(bits.Below(api.MaxRoles+1)) && isLength(r.Longest)
}

// isCode reports whether a number is that of a role, or 0.
func isCode(n int) bool {
	return n >= 0 && n <= api.MaxRoles
}

// read reads a rule.
func read(r *wire.Reader) Rule {
	return Rule{
		Revoke:  r.Flag(),
		Admin:   r.Number(api.MaxRoles),
		Target:  r.Number(api.MaxRoles),
		If:      cube.Cube{Yes: r.Set(api.MaxRoles), No: r.Set(api.MaxRoles)},
		When:    readDays(r),
		Longest: r.Number(api.MaxDay),
	}
}

// readDays reads the text of a set of days.
func readDays(r *wire.Reader) days.Set {
	s, e := days.Parse(r.String(r.Left()))
	r.Fail(e)
	return s
}
