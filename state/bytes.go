package state

import (
	"arbac/api"
	"arbac/formula"
	"arbac/grant"
	"arbac/hierarchy"
	"arbac/keccak"
	"arbac/membership"
	"arbac/names"
	"arbac/rule"
	"arbac/session"
	"arbac/wire"
)

// digestTag is the tag of the digests of states.
const digestTag = "state"

// Bytes returns the bytes of the state.
func (s *State) Bytes() []byte {
	if s == nil {
		return nil
	}
	p := s.held()
	w := wire.NewWriter()
	w.Uint(uint64(p.Day))
	w.Bytes(p.Users.Bytes())
	w.Bytes(p.Roles.Bytes())
	w.Set(p.Admin)
	w.Bytes(p.Links.Bytes())
	w.Bytes(p.Members.Bytes())
	w.Bytes(p.Grants.Bytes())
	w.Bytes(rule.Bytes(p.Rules))
	w.Uint(uint64(len(p.Constraints)))
	for _, c := range p.Constraints {
		w.Bytes(c.Bytes())
	}
	w.Bytes(p.Sessions.Bytes())
	return w.Out()
}

// Read returns the state with these bytes.
func Read(p []byte) (*State, api.Errno) {
	r := wire.NewReader(p)
	q := Parts{
		Day:         r.Number(api.MaxDay),
		Users:       part(r, names.Read),
		Roles:       part(r, names.Read),
		Admin:       r.Set(api.MaxRoles),
		Links:       part(r, hierarchy.Read),
		Members:     part(r, membership.Read),
		Grants:      part(r, grant.Read),
		Rules:       part(r, rule.Read),
		Constraints: constraints(r),
		Sessions:    part(r, session.Read),
	}
	if r.End() != api.OK {
		return nil, api.ErrForm
	}
	s, e := Of(q)
	if e != api.OK {
		return nil, api.ErrForm
	}
	return s, api.OK
}

// Digest returns the digest of the state.
func (s *State) Digest() keccak.ID {
	if s == nil {
		return keccak.ID{}
	}
	return keccak.Tagged(digestTag, s.Bytes())
}

// part reads a part that is a byte string of its own.
func part[T any](r *wire.Reader, read func(p []byte) (T, api.Errno)) T {
	x, e := read(r.Bytes(r.Left()))
	r.Fail(e)
	return x
}

// constraints reads the constraints, each a part of its own.
func constraints(r *wire.Reader) []formula.Constraint {
	l := make([]formula.Constraint, r.Count(api.MaxConstraints))
	for i := range l {
		l[i] = part(r, formula.Read)
	}
	return l
}
