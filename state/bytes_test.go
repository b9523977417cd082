package state_test

import (
	"bytes"
	"math/rand"
	"slices"
	"testing"

	"arbac/api"
	"arbac/bits"
	"arbac/formula"
	"arbac/keccak"
	"arbac/rule"
	"arbac/state"
)

// number appends the encoding of a number below 2^21.
func number(p []byte, n int) []byte {
	if n >= 1<<14 {
		p = append(p, byte(128|n>>14))
	}
	if n >= 1<<7 {
		p = append(p, byte(128|n>>7&127))
	}
	return append(p, byte(n&127))
}

// encoded returns the bytes of parts, as the chapter describes them; parts that are no state included.
func encoded(p P) []byte {
	out := number(nil, p.Day)
	add := func(part []byte) { out = append(number(out, len(part)), part...) }
	add(p.Users.Bytes())
	add(p.Roles.Bytes())
	add(p.Admin.Bytes())
	add(p.Links.Bytes())
	add(p.Members.Bytes())
	add(p.Grants.Bytes())
	add(rule.Bytes(p.Rules))
	out = number(out, len(p.Constraints))
	for _, c := range p.Constraints {
		add(c.Bytes())
	}
	add(p.Sessions.Bytes())
	return out
}

// P24.6
func TestBytes(t *testing.T) {
	r := rand.New(rand.NewSource(246))
	all := []P{larger(t), example(t), state.New().Parts()}
	for range 600 {
		all = append(all, random(t, r))
	}
	for _, p := range all {
		s, want := made(t, p), encoded(p)
		got := s.Bytes()
		if !bytes.Equal(got, want) {
			t.Fatalf("Bytes: %x, not %x", got, want)
		}
		if s.Digest() != keccak.Tagged("state", want) {
			t.Fatalf("Digest: %s", s.Digest().Text())
		}
		read, e := state.Read(got)
		if e != api.OK || !bytes.Equal(got, want) {
			t.Fatalf("Read(%x): error %d", want, e)
		}
		clear(got)
		if !read.Equal(s) || !equalParts(read.Parts(), p) || !bytes.Equal(read.Bytes(), want) || read.Digest() != s.Digest() {
			t.Fatalf("Read(%x): %v, not %v", want, read.Parts(), p)
		}
	}
	if p := state.New().Bytes(); !bytes.Equal(p, []byte{0, 1, 0, 1, 0, 0, 1, 0, 1, 0, 1, 0, 1, 0, 0, 1, 0}) {
		t.Errorf("Bytes of the state at the beginning: %v", p)
	}
}

// P24.6: example 1 of the chapter, by hand, with the rule "revoke r1 by a1;" and the constraint "declare static c: r1;".
func TestBytesByHand(t *testing.T) {
	p := example(t)
	p.Rules = rules(t, "revoke r1 by a1;", p.Roles, p.Admin)
	p.Constraints = constraints(t, "declare static c: r1;", p.Roles, p.Admin)
	want := []byte{
		9,
		4, 1, 2, 'u', '1',
		10, 3, 2, 'r', '1', 2, 'r', '2', 2, 'a', '1',
		1, 8,
		3, 1, 1, 2,
		4, 1, 1, 1, 9,
		11, 1, 2, 4, 'r', 'e', 'a', 'd', 2, '/', 'a', 1,
		11, 1, 1, 3, 1, 0, 0, 3, 'a', 'l', 'l', 0,
		1, 9, 0, 1, 1, 'c', 4, 0, 1, 1, 0,
		5, 1, 1, 1, 1, 4,
	}
	if got := made(t, p).Bytes(); !bytes.Equal(got, want) {
		t.Errorf("Bytes: %v, not %v", got, want)
	}
	if s, e := state.Read(want); e != api.OK || !equalParts(s.Parts(), p) {
		t.Errorf("Read: error %d", e)
	}
}

// refused checks that bytes are those of no state.
func refused(t *testing.T, what string, p []byte) {
	t.Helper()
	before := bytes.Clone(p)
	if s, e := state.Read(p); s != nil || e != api.ErrForm {
		t.Errorf("%s: Read(%.80x): error %d", what, p, e)
	}
	if !bytes.Equal(p, before) {
		t.Errorf("%s: Read has changed its argument", what)
	}
}

// P24.6: bytes of no state.
func TestReadErrors(t *testing.T) {
	good := made(t, larger(t)).Bytes()
	for n := range good {
		refused(t, "cut", good[:n])
	}
	refused(t, "more", append(slices.Clone(good), 0))
	refused(t, "before", append([]byte{0}, good...))
	refused(t, "long", bytes.Repeat([]byte{255}, 50))
	// Parts that are none.
	fresh := []byte{0, 1, 0, 1, 0, 0, 1, 0, 1, 0, 1, 0, 1, 0, 0, 1, 0}
	if s, e := state.Read(fresh); e != api.OK || !s.Equal(state.New()) {
		t.Fatalf("Read of the state at the beginning: error %d", e)
	}
	for i := range fresh {
		for _, b := range []byte{1, 2, 127, 128, 255} {
			p := slices.Clone(fresh)
			if p[i] += b; i == 0 && p[i] < 128 {
				continue // another day
			}
			refused(t, "changed", p)
		}
		refused(t, "left out", slices.Delete(slices.Clone(fresh), i, i+1))
		if i > 0 {
			refused(t, "put in", slices.Insert(slices.Clone(fresh), i, 0))
		}
	}
	refused(t, "day 30001", append([]byte{129, 234, 49}, fresh[1:]...))
	if s, e := state.Read(append([]byte{129, 234, 48}, fresh[1:]...)); e != api.OK || s.Day() != 30000 {
		t.Errorf("day 30000: error %d", e)
	}
	// Parts that are no state together.
	for _, step := range faults(t)[2:] {
		for _, f := range step {
			p := larger(t)
			f.change(&p)
			refused(t, f.what, encoded(p))
		}
	}
	p := larger(t)
	p.Constraints = append(p.Constraints, slices.Repeat([]formula.Constraint{p.Constraints[0]}, api.MaxConstraints)...)
	refused(t, "many constraints", encoded(p))
	p = state.New().Parts()
	p.Admin = bits.Of(64)
	refused(t, "administrative role 64", encoded(p))
}

// P24.6: whatever is read has exactly these bytes.
func TestReadIsCanonical(t *testing.T) {
	r := rand.New(rand.NewSource(247))
	read := 0
	good := made(t, larger(t)).Bytes()
	for range 30000 {
		p := slices.Clone(good)
		for range 1 + r.Intn(2) {
			p[r.Intn(len(p))] = []byte{0, 1, 2, 3, 4, 5, 6, 63, 64, 128, 'a', '7', byte(r.Intn(256))}[r.Intn(13)]
		}
		s, e := state.Read(p)
		if e == api.OK {
			read++
		}
		if e == api.OK && (!bytes.Equal(s.Bytes(), p) || !bytes.Equal(encoded(s.Parts()), p)) || e != api.OK && (s != nil || e != api.ErrForm) {
			t.Fatalf("Read(%x): error %d", p, e)
		}
	}
	if read < 1500 {
		t.Errorf("only %d states were read", read)
	}
}
