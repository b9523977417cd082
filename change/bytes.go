package change

import (
	"arbac/api"
	"arbac/permission"
	"arbac/wire"
)

// Bytes returns the encoding of a change.
func (c Change) Bytes() []byte {
	if Check(c) != api.OK {
		return nil
	}
	w := wire.NewWriter()
	w.Uint(uint64(c.Kind))
	for _, f := range c.numbers() {
		if c.has(f.use) {
			w.Uint(uint64(*f.at))
		}
	}
	for _, f := range c.texts() {
		if c.has(f.use) {
			w.String(*f.at)
		}
	}
	if c.has(usesPermission) {
		w.String(c.Permission.Action)
		w.String(c.Permission.Path)
		w.Flag(c.Permission.Deep)
	}
	return w.Out()
}

// Read returns the change with an encoding.
func Read(p []byte) (Change, api.Errno) {
	r := wire.NewReader(p)
	c := Change{Kind: Kind(r.Number(int(Day)))}
	for _, f := range c.numbers() {
		if c.has(f.use) {
			*f.at = r.Number(maxNumber)
		}
	}
	for _, f := range c.texts() {
		if c.has(f.use) {
			*f.at = r.String(r.Left())
		}
	}
	if c.has(usesPermission) {
		c.Permission = permission.Permission{Action: r.String(api.MaxName), Path: r.String(maxPath), Deep: r.Flag()}
	}
	// Up to here the kind may be 0, and texts may be too long.
	if r.End() != api.OK || Check(c) != api.OK {
		return Change{}, api.ErrForm
	}
	return c, api.OK
}
