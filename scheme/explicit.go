package scheme

import (
	"arbac/api"
	"arbac/bits"
	"arbac/cube"
)

// Explicit returns cubes over explicit roles for a cube over their closure.
func Explicit(p Problem, c cube.Cube) ([]cube.Cube, api.Errno) {
	switch {
	case p.Links == nil:
		return nil, api.ErrArg
	case !within(c, upTo(p.Roles)):
		return nil, api.ErrNone
	}
	var no bits.Set
	for r := range c.No.All() {
		no = no.Or(p.Links.Seniors(r))
	}
	l := []cube.Cube{{No: no}}
	for r := range c.Yes.All() {
		// A senior that must not be there would make an empty cube.
		l = extended(l, p.Links.Seniors(r).Minus(no))
		if len(l) > api.MaxCubes {
			return nil, api.ErrLimit
		}
	}
	return cube.Simple(l), api.OK
}

// extended returns cubes for the sets that satisfy one of a list, and contain one of some roles. The cubes of
// the list have the same No, and none of them is within another one; so it is with the result, if it has at most
// MaxCubes cubes. If it has more, they are not all there.
func extended(l []cube.Cube, roles bits.Set) []cube.Cube {
	var have, lack []cube.Cube
	for _, c := range l {
		// With a further role, a cube that has one of them already would be within itself as it is.
		if c.Yes.Meets(roles) {
			have = append(have, c)
		} else {
			lack = append(lack, c)
		}
	}
	out := have
	for _, c := range lack {
		for r := range roles.All() {
			if len(out) > api.MaxCubes {
				return out
			}
			// Two of these are never within each other: without their new roles they are not.
			if yes := c.Yes.With(r); !cube.Some(have, yes) {
				out = append(out, cube.Cube{Yes: yes, No: c.No})
			}
		}
	}
	return out
}
