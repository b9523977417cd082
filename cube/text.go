package cube

import (
	"strconv"
	"strings"

	"arbac/api"
	"arbac/bits"
	"arbac/wire"
)

// everySet is the text of the full cube; blank stands between the literals of others, and
// absent before those of No.
const (
	everySet = "full"
	blank    = " "
	absent   = "!"
)

// Text returns a cube as text.
func (c Cube) Text() string {
	if full(c) {
		return everySet
	}
	var l []string
	for r := range roles(c).All() {
		if c.Yes.Has(r) {
			l = append(l, strconv.Itoa(r))
		}
		if c.No.Has(r) {
			l = append(l, absent+strconv.Itoa(r))
		}
	}
	return strings.Join(l, blank)
}

// Parse returns the cube with a text.
func Parse(s string) (Cube, api.Errno) {
	var c Cube
	if s == everySet {
		return c, api.OK
	}
	for literal := range strings.SplitSeq(s, blank) {
		number, no := strings.CutPrefix(literal, absent)
		r, err := strconv.Atoi(number)
		if err != nil {
			return Cube{}, api.ErrForm
		}
		if no {
			c.No = c.No.With(r)
		} else {
			c.Yes = c.Yes.With(r)
		}
	}
	// The loop is generous about leading zeros, signs, the order, and numbers that no set has.
	if c.Text() != s {
		return Cube{}, api.ErrForm
	}
	return c, api.OK
}

// Bytes returns the encoding of a cube.
func (c Cube) Bytes() []byte {
	w := wire.NewWriter()
	w.Set(c.Yes)
	w.Set(c.No)
	return w.Out()
}

// Read returns the cube with an encoding.
func Read(p []byte) (Cube, api.Errno) {
	r := wire.NewReader(p)
	c := Cube{r.Set(bits.MaxMember), r.Set(bits.MaxMember)}
	if r.End() != api.OK {
		return Cube{}, api.ErrForm
	}
	return c, api.OK
}
