package session_test

import (
	"bytes"
	"math/rand"
	"slices"
	"testing"

	"arbac/api"
	"arbac/bits"
	"arbac/session"
)

// number appends the encoding of a number below 2^14.
func number(p []byte, n int) []byte {
	if n >= 1<<7 {
		p = append(p, byte(128|n>>7))
	}
	return append(p, byte(n&127))
}

// encoded returns the bytes of sessions in this order, as the chapter describes them.
func encoded(l ...S) []byte {
	p := number(nil, len(l))
	for _, s := range l {
		set := s.Active.Bytes()
		p = append(number(number(number(p, s.Number), s.User), len(set)), set...)
	}
	return p
}

// P22.3
func TestBytes(t *testing.T) {
	r := rand.New(rand.NewSource(223))
	lists := [][]S{nil, {{1, 1, bits.Of()}}, {{64, 256, bits.Below(64).Without(0)}}, {{2, 128, bits.Of(1, 63)}, {3, 127, bits.Of()}}}
	for range 100 {
		var l []S
		for n := 1; n <= api.MaxSessions; n++ {
			if r.Intn(10) == 0 {
				l = append(l, S{n, 1 + r.Intn(256), randomSet(r, 63)})
			}
		}
		lists = append(lists, l)
	}
	var all []S
	for n := 1; n <= api.MaxSessions; n++ {
		all = append(all, S{n, 257 - n, bits.Of(n - n/64)})
	}
	lists = append(lists, all)
	for _, l := range lists {
		b, p := of(t, l...), encoded(l...)
		got := b.Bytes()
		if !bytes.Equal(got, p) {
			t.Fatalf("Bytes of %v: %x, not %x", l, got, p)
		}
		read, e := session.Read(got)
		if e != api.OK || !bytes.Equal(got, p) {
			t.Fatalf("Read of the bytes of %v: error %d", l, e)
		}
		clear(got)
		m := model{}
		for _, s := range l {
			m[s.Number] = s
		}
		check(t, "Read", read, m)
		if !read.Equal(b) || !bytes.Equal(b.Bytes(), p) || !bytes.Equal(read.Bytes(), p) {
			t.Fatalf("%v: a caller has changed a book", l)
		}
	}
	// By hand: session 1 of user 4 with the roles 2 and 5, session 3 of user 200 without roles.
	if p := of(t, S{1, 4, bits.Of(2, 5)}, S{3, 200, bits.Of()}).Bytes(); !bytes.Equal(p, []byte{2, 1, 4, 1, 36, 3, 129, 72, 0}) {
		t.Errorf("by hand: %v", p)
	}
	if p := new(B).Bytes(); !bytes.Equal(p, []byte{0}) {
		t.Errorf("Bytes of the zero value: %v", p)
	}
}

// P22.3: bytes of no book.
func TestReadErrors(t *testing.T) {
	var many []S
	for n := 1; n <= api.MaxSessions; n++ {
		many = append(many, S{n, 1, bits.Of()})
	}
	good := encoded(S{1, 4, bits.Of(2, 63)}, S{3, 200, bits.Of()})
	texts := [][]byte{
		nil, {1}, {0, 0}, {1, 1}, {1, 1, 1}, {2, 1, 1, 0}, {1, 1, 1, 0, 0}, {128, 0}, {128, 1, 1, 1, 0}, {1, 128, 1, 1, 0}, {1, 1, 128, 1, 0}, {1, 1, 1, 128, 0},
		encoded(S{0, 1, bits.Of()}), encoded(S{65, 1, bits.Of()}), encoded(S{1, 0, bits.Of()}), encoded(S{1, 257, bits.Of()}), encoded(S{0, 0, bits.Of()}),
		encoded(S{1, 1, bits.Of(0)}), encoded(S{1, 1, bits.Of(0, 1)}), encoded(S{1, 1, bits.Of(64)}), encoded(S{1, 1, bits.Of(1, 4095)}),
		encoded(S{1, 1, bits.Of()}, S{1, 1, bits.Of()}), encoded(S{1, 1, bits.Of()}, S{1, 2, bits.Of(1)}), encoded(S{2, 1, bits.Of()}, S{1, 1, bits.Of()}), encoded(S{1, 1, bits.Of()}, S{3, 1, bits.Of()}, S{2, 1, bits.Of()}),
		encoded(append(slices.Clone(many), S{64, 1, bits.Of()})...), encoded(append(slices.Clone(many), S{65, 1, bits.Of()})...),
		{255, 255, 255, 127, 1, 1, 0}, {129, 255, 255, 255, 255, 255, 255, 255, 255, 127}, bytes.Repeat([]byte{255}, 20), {1, 1, 1, 1, 0}, {1, 1, 1, 2, 4, 0}, {1, 1, 1, 255, 127},
		append(slices.Clone(good), 0), append([]byte{0}, good...),
	}
	for n := range good {
		texts = append(texts, good[:n])
	}
	for _, p := range texts {
		before := bytes.Clone(p)
		if b, e := session.Read(p); b != nil || e != api.ErrForm {
			t.Errorf("Read(%.40x): %v, error %d", p, b.List(), e)
		}
		if !bytes.Equal(p, before) {
			t.Errorf("Read(%.40x) has changed its argument", before)
		}
	}
	if b, e := session.Read(encoded(many...)); e != api.OK || b.Len() != len(many) {
		t.Errorf("Read of as many sessions as there may be: error %d", e)
	}
}

// P22.3: whatever is read has exactly these bytes.
func TestReadIsCanonical(t *testing.T) {
	r := rand.New(rand.NewSource(224))
	read := 0
	for range 5000 {
		p := encoded(S{1, 4, bits.Of(2, 5)}, S{2, 200, bits.Of()}, S{4, 4, bits.Of(1, 60)})
		for range 1 + r.Intn(3) {
			p[r.Intn(len(p))] = []byte{0, 1, 2, 3, 4, 63, 64, 128, 129, byte(r.Intn(256))}[r.Intn(10)]
		}
		p = p[:len(p)-r.Intn(3)*r.Intn(2)]
		b, e := session.Read(p)
		if e == api.OK {
			read++
			if !of(t, b.List()...).Equal(b) || !bytes.Equal(encoded(b.List()...), p) {
				t.Fatalf("Read(%x): %v", p, b.List())
			}
		}
		if e == api.OK && !bytes.Equal(b.Bytes(), p) || e != api.OK && (b != nil || e != api.ErrForm) {
			t.Fatalf("Read(%x): %v, error %d", p, b.List(), e)
		}
	}
	if read < 300 {
		t.Errorf("only %d books were read", read)
	}
}
