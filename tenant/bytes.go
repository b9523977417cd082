package tenant

import (
	"arbac/api"
	"arbac/keccak"
	"arbac/names"
	"arbac/state"
	"arbac/wire"
)

// digestTag is the tag of the digests of houses.
const digestTag = "house"

// maxVersion is the greatest version that is read.
const maxVersion = 1 << 53

// Bytes returns the encoding.
func (h *House) Bytes() []byte {
	if h == nil {
		return nil
	}
	w := wire.NewWriter()
	w.Uint(uint64(len(h.tenants)))
	for _, t := range h.tenants {
		w.String(t.name)
		w.Uint(uint64(t.version))
		w.Bytes(t.state.Bytes())
	}
	return w.Out()
}

// Read returns the house with these bytes.
func Read(p []byte) (*House, api.Errno) {
	r := wire.NewReader(p)
	h := New()
	for range r.Count(api.MaxTenants) {
		name, version := r.String(api.MaxName), r.Number(maxVersion)
		s, e := state.Read(r.Bytes(r.Left()))
		// Names ascend, so that each one's place is behind all others.
		if at, _ := h.place(name); e != api.OK || !names.Valid(name) || at < len(h.tenants) {
			return nil, api.ErrForm
		}
		h.tenants = append(h.tenants, tenant{name, s, version})
	}
	if r.End() != api.OK {
		return nil, api.ErrForm
	}
	return h, api.OK
}

// Digest returns the digest of the bytes.
func (h *House) Digest() keccak.ID {
	if h == nil {
		return keccak.ID{}
	}
	return keccak.Tagged(digestTag, h.Bytes())
}
