package formula_test

import (
	"bytes"
	"math/rand"
	"slices"
	"testing"

	"arbac/api"
	"arbac/formula"
	"arbac/syntax"
)

// appendNumber appends the encoding of a number below 2^21.
func appendNumber(p []byte, n int) []byte {
	if n >= 1<<14 {
		p = append(p, byte(128|n>>14))
	}
	if n >= 1<<7 {
		p = append(p, byte(128|n>>7&127))
	}
	return append(p, byte(n&127))
}

// appendFormula appends the bytes of a formula, as the chapter describes them.
func appendFormula(p []byte, f F) []byte {
	p = appendNumber(appendNumber(p, int(f.Op)), f.N)
	p = appendNumber(p, len(f.Roles))
	for _, r := range f.Roles {
		p = appendNumber(p, r)
	}
	p = appendNumber(p, len(f.Args))
	for _, x := range f.Args {
		p = appendFormula(p, x)
	}
	return p
}

// encoded returns the bytes of a constraint.
func encoded(c C) []byte {
	p := []byte{0}
	if c.Enforce {
		p[0] = 1
	}
	p = appendNumber(appendNumber(p, int(c.Kind)), len(c.Name))
	return appendFormula(append(p, c.Name...), c.Formula)
}

// P18.8: the example of the chapter, and one more by hand.
func TestBytesExample(t *testing.T) {
	for _, x := range []struct {
		c C
		p []byte
	}{
		{C{Enforce: true, Kind: syntax.Static, Name: "sod", Formula: role(3)}, []byte{1, 1, 3, 's', 'o', 'd', 4, 0, 1, 3, 0}},
		{C{Kind: syntax.Users, Name: "a", Formula: op(syntax.Lt, members(63), number(300))}, []byte{0, 3, 1, 'a', 12, 0, 0, 2, 6, 0, 1, 63, 0, 1, 130, 44, 0, 0}},
		{C{Kind: syntax.Dynamic, Name: "b", Formula: sod()}, []byte{0, 2, 1, 'b', 11, 0, 0, 2, 5, 0, 2, 1, 2, 0, 1, 1, 0, 0}},
	} {
		if p := x.c.Bytes(); !bytes.Equal(p, x.p) {
			t.Errorf("Bytes of %v: %v, not %v", x.c, p, x.p)
		}
		if c, e := formula.Read(x.p); e != api.OK || !formula.EqualConstraint(c, x.c) {
			t.Errorf("Read of %v: %v, error %d", x.p, c, e)
		}
	}
}

// P18.8: random constraints.
func TestBytesRandom(t *testing.T) {
	r := rand.New(rand.NewSource(1808))
	n := 0
	for i := range 10000 {
		c := randomConstraint(r)
		for range i % 4 / 3 {
			damage(r, &c.Formula)
		}
		p := c.Bytes()
		if formula.CheckConstraint(c) != api.OK {
			if len(p) > 0 {
				t.Fatalf("%v has the bytes %v", c, p)
			}
			continue
		}
		n++
		if !bytes.Equal(p, encoded(c)) {
			t.Fatalf("Bytes of %v: %v, not %v", c, p, encoded(c))
		}
		d, e := formula.Read(p)
		if e != api.OK || !formula.EqualConstraint(c, d) {
			t.Fatalf("Read of %v: %v, error %d; not %v", p, d, e, c)
		}
		// Neither the bytes nor the constraint share anything with what comes next.
		clear(p)
		spoil(d.Formula)
		if !bytes.Equal(c.Bytes(), encoded(c)) {
			t.Fatal("a caller has changed a constraint")
		}
	}
	if n < 5000 {
		t.Errorf("only %d constraints were accepted", n)
	}
}

// P18.8: constraints that CheckConstraint refuses have no bytes.
func TestBytesNone(t *testing.T) {
	for _, c := range []C{
		{}, {Kind: syntax.Static, Name: "sod"}, {Kind: 4, Name: "sod", Formula: sod()}, {Kind: syntax.Static, Formula: sod()}, {Kind: syntax.Static, Name: "by", Formula: sod()}, {Kind: syntax.Users, Name: "sod", Formula: sod()},
		{Kind: syntax.Static, Name: "sod", Formula: endless(1)}, {Kind: syntax.Static, Name: "sod", Formula: number(1)},
	} {
		if p := c.Bytes(); len(p) != 0 {
			t.Errorf("%d %q %s has the bytes %v", c.Kind, c.Name, shown(c.Formula), p)
		}
	}
}

// wantNone checks that there is no constraint with these bytes.
func wantNone(t *testing.T, p []byte) {
	t.Helper()
	if c, e := formula.Read(p); e != api.ErrForm || !formula.EqualConstraint(c, C{}) {
		t.Errorf("Read of %.100v: %v, error %d", p, c, e)
	}
}

// P18.8: bytes of no constraint.
func TestReadErrors(t *testing.T) {
	of := func(k syntax.Kind, name string, f F) []byte {
		return encoded(C{Enforce: true, Kind: k, Name: name, Formula: f})
	}
	nine := op(syntax.And, op(syntax.Le, count(1, 2, 3, 4, 5, 6, 7, 8), number(1)), role(9))
	for _, p := range [][]byte{
		nil, {}, {1}, bytes.Repeat([]byte{0}, 20), bytes.Repeat([]byte{255}, 20),
		{2, 1, 3, 's', 'o', 'd', 4, 0, 1, 3, 0}, {128, 1, 3, 's', 'o', 'd', 4, 0, 1, 3, 0}, {1, 129, 1, 3, 's', 'o', 'd', 4, 0, 1, 3, 0}, {1, 130, 1, 3, 's', 'o', 'd', 4, 0, 1, 3, 0},
		{1, 1, 128, 3, 's', 'o', 'd', 4, 0, 1, 3, 0}, {1, 1, 3, 's', 'o', 'd', 128, 4, 0, 1, 3, 0}, {1, 1, 3, 's', 'o', 'd', 130, 4, 0, 1, 3, 0}, {1, 1, 3, 's', 'o', 'd', 4, 128, 0, 1, 3, 0}, {1, 1, 3, 's', 'o', 'd', 4, 0, 1, 128, 3, 0},
		{1, 1, 3, 's', 'o', 'd', 4, 0, 1, 3, 0, 0}, {1, 1, 3, 's', 'o', 'd', 4, 0, 1, 3, 1}, {1, 1, 3, 's', 'o', 'd', 4, 0, 0, 0},
		of(0, "sod", role(1)), of(4, "sod", role(1)), of(255, "sod", role(1)), of(syntax.Users, "sod", role(1)), of(syntax.Static, "sod", members(1)), of(syntax.Static, "", role(1)), of(syntax.Static, "by", role(1)), of(syntax.Static, "abcdefghijklm", role(1)),
		of(syntax.Static, "sod", role(0)), of(syntax.Static, "sod", role(64)), of(syntax.Static, "sod", F{}), of(syntax.Static, "sod", F{Op: 17}), of(syntax.Static, "sod", number(1)), of(syntax.Static, "sod", F{Op: syntax.True, N: 1}), of(syntax.Static, "sod", op(syntax.Lt, number(1000000), number(1))),
		of(syntax.Static, "sod", op(syntax.Lt, count(1, 1), number(1))), of(syntax.Static, "sod", op(syntax.Lt, count(1, 2, 3, 4, 5, 6, 7, 8, 9), number(1))), of(syntax.Static, "sod", op(syntax.And, role(1))), of(syntax.Static, "sod", op(syntax.And, role(1), role(1), role(1))), of(syntax.Static, "sod", op(syntax.And, role(1), number(1))),
		of(syntax.Static, "sod", nine), of(syntax.Static, "sod", tower(11, role(1))), of(syntax.Static, "sod", wide(201)), of(syntax.Static, "sod", tower(100000, role(1))),
		// A source of bytes that are nested as deep as they are long.
		append([]byte{1, 1, 3, 's', 'o', 'd'}, bytes.Repeat([]byte{7, 0, 0, 1}, 10000000)...),
		append([]byte{1, 1, 3, 's', 'o', 'd'}, bytes.Repeat([]byte{8, 0, 0, 2}, 1000)...),
	} {
		wantNone(t, p)
	}
	for _, f := range []F{tower(10, role(1)), wide(200), op(syntax.Lt, number(999999), count(1, 2, 3, 4, 5, 6, 7, 63))} {
		if c, e := formula.Read(of(syntax.Static, "sod", f)); e != api.OK || !formula.Equal(c.Formula, f) {
			t.Errorf("Read of %s: error %d", shown(f), e)
		}
	}
}

// P18.8: bytes that are cut, lengthened or changed are those of another constraint, or of none.
func TestReadCanonical(t *testing.T) {
	r := rand.New(rand.NewSource(1888))
	accepted := 0
	for range 300 {
		c := randomConstraint(r)
		p := c.Bytes()
		for i := range p {
			wantNone(t, p[:i])
			for _, b := range []byte{p[i] + 1, p[i] - 1, p[i] ^ 128, byte(r.Intn(256))} {
				q := slices.Clone(p)
				q[i] = b
				d, e := formula.Read(q)
				switch {
				case e == api.OK && bytes.Equal(d.Bytes(), q):
					accepted++
				case e != api.ErrForm || !formula.EqualConstraint(d, C{}):
					t.Fatalf("Read of %v: %v, error %d", q, d, e)
				}
			}
		}
		if len(p) > 0 {
			wantNone(t, append(slices.Clone(p), 0))
		}
	}
	if accepted < 1000 {
		t.Errorf("only %d changed encodings were accepted", accepted)
	}
}
