package membership_test

import (
	"bytes"
	"math/rand"
	"slices"
	"testing"

	"arbac/api"
	"arbac/membership"
)

// number appends the encoding of a number below 2^21.
func number(p []byte, n int) []byte {
	if n >= 1<<14 {
		p = append(p, byte(128|n>>14))
	}
	if n >= 1<<7 {
		p = append(p, byte(128|n>>7))
	}
	return append(p, byte(n&127))
}

// encoded returns the bytes of assignments in this order, as the chapter describes them.
func encoded(l ...E) []byte {
	p := number(nil, len(l))
	for _, x := range l {
		p = number(number(number(p, x.User), x.Role), x.Until)
	}
	return p
}

// P12.5
func TestBytes(t *testing.T) {
	for _, l := range lists() {
		b, m := of(t, l...), modelOf(l)
		want := encoded(m.entries()...)
		p := b.Bytes()
		if !bytes.Equal(p, want) {
			t.Fatalf("Bytes of %v: %x, not %x", l, p, want)
		}
		read, e := membership.Read(p)
		if e != api.OK || !bytes.Equal(p, want) {
			t.Fatalf("Read of the bytes of %v: %v", l, e)
		}
		clear(p)
		check(t, "Read", read, m)
		if !read.Equal(b) || !bytes.Equal(b.Bytes(), want) {
			t.Fatalf("%v: a caller has changed a book", l)
		}
	}
	if p := new(membership.Book).Bytes(); !bytes.Equal(p, []byte{0}) {
		t.Errorf("Bytes of the zero value: %x", p)
	}
}

// P12.5: bytes of no book.
func TestReadErrors(t *testing.T) {
	good := encoded(E{1, 2, 300}, E{1, 63, 0}, E{256, 1, 30000})
	var most []E
	for user := 1; user <= 256; user++ {
		for role := 1; role <= 63; role++ {
			most = append(most, E{user, role, 1})
		}
	}
	texts := [][]byte{
		nil, {}, {1}, {0, 0}, {128, 0}, {128, 1, 1, 2, 3}, {1, 1, 2}, {2, 1, 2, 3}, {1, 1, 2, 3, 4}, {1, 1, 2, 3, 1, 2, 3}, {1, 128, 1, 2, 3}, {1, 1, 128, 2, 3}, {1, 1, 2, 128, 3},
		encoded(E{0, 1, 1}), encoded(E{257, 1, 1}), encoded(E{1, 0, 1}), encoded(E{1, 64, 1}), encoded(E{1, 1, 30001}), encoded(E{0, 0, 0}), encoded(E{1 << 20, 1, 1}),
		encoded(E{1, 2, 3}, E{1, 2, 3}), encoded(E{1, 2, 3}, E{1, 2, 4}), encoded(E{1, 2, 4}, E{1, 2, 3}),
		encoded(E{1, 3, 3}, E{1, 2, 3}), encoded(E{2, 1, 3}, E{1, 2, 3}), encoded(E{2, 2, 1}, E{1, 1, 2}), encoded(E{1, 1, 1}, E{3, 1, 1}, E{2, 1, 1}),
		encoded(append(slices.Clone(most), E{256, 63, 1})...), encoded(append(slices.Clone(most), E{257, 1, 1})...), encoded(slices.Repeat([]E{{1, 1, 1}}, 16129)...),
		{0x80 | 127, 127, 1, 2, 3}, {255, 255, 255, 255, 255, 255, 255, 255, 127}, {129, 255, 255, 255, 255, 255, 255, 255, 255, 127}, bytes.Repeat([]byte{255}, 20),
		{1, 129, 255, 255, 255, 255, 255, 255, 255, 255, 127, 1, 1},
		append(slices.Clone(good), 0), append([]byte{0}, good...),
	}
	for n := range good {
		texts = append(texts, good[:n])
	}
	for _, p := range texts {
		before := bytes.Clone(p)
		if b, e := membership.Read(p); b != nil || e != api.ErrForm {
			t.Errorf("Read(%.40x): %v, %v", p, b.Entries(), e)
		}
		if !bytes.Equal(p, before) {
			t.Errorf("Read(%.40x) has changed its argument", before)
		}
	}
	if b, e := membership.Read(encoded(most...)); e != api.OK || b.Len() != len(most) {
		t.Errorf("Read of all assignments: %v", e)
	}
}

// P12.5: whatever is read has exactly these bytes.
func TestReadIsCanonical(t *testing.T) {
	r := rand.New(rand.NewSource(14))
	read := 0
	for range 5000 {
		p := encoded(E{1, 2, 3}, E{2, 1, 300}, E{2, 3, 0})
		for range 1 + r.Intn(3) {
			p[r.Intn(len(p))] = []byte{0, 1, 2, 3, 4, 63, 64, 128, 129, byte(r.Intn(256))}[r.Intn(10)]
		}
		p = p[:len(p)-r.Intn(3)*r.Intn(2)]
		b, e := membership.Read(p)
		if e == api.OK {
			read++
			if !of(t, b.Entries()...).Equal(b) || !bytes.Equal(encoded(b.Entries()...), p) {
				t.Fatalf("Read(%x): %v", p, b.Entries())
			}
		}
		if e == api.OK && !bytes.Equal(b.Bytes(), p) || e != api.OK && (b != nil || e != api.ErrForm) {
			t.Fatalf("Read(%x): %v, %v", p, b.Entries(), e)
		}
	}
	if read < 300 {
		t.Errorf("only %d books were read", read)
	}
}
