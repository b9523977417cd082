package grant_test

import (
	"bytes"
	"math/rand"
	"slices"
	"testing"

	"arbac/api"
	"arbac/grant"
)

// number appends the encoding of a number below 2^14.
func number(p []byte, n int) []byte {
	if n >= 1<<7 {
		p = append(p, byte(128|n>>7))
	}
	return append(p, byte(n&127))
}

// encoded returns the bytes of grants in this order, as the chapter describes them.
func encoded(l ...E) []byte {
	p := number(nil, len(l))
	for _, x := range l {
		p = number(p, x.Role)
		for _, s := range []string{x.Permission.Action, x.Permission.Path} {
			p = append(number(p, len(s)), s...)
		}
		if x.Permission.Deep {
			p = append(p, 1)
		} else {
			p = append(p, 0)
		}
	}
	return p
}

// P13.4
func TestBytes(t *testing.T) {
	for _, l := range append(lists(), most()) {
		b, m := of(t, l...), modelOf(l)
		want := encoded(m.entries()...)
		p := b.Bytes()
		if !bytes.Equal(p, want) {
			t.Fatalf("Bytes of %v: %x, not %x", l, p, want)
		}
		read, e := grant.Read(p)
		if e != api.OK || !bytes.Equal(p, want) {
			t.Fatalf("Read of the bytes of %v: %v", l, e)
		}
		clear(p)
		check(t, "Read", read, m)
		if !read.Equal(b) || !bytes.Equal(b.Bytes(), want) {
			t.Fatalf("%v: a caller has changed a book", l)
		}
	}
	if p := new(grant.Book).Bytes(); !bytes.Equal(p, []byte{0}) {
		t.Errorf("Bytes of the zero value: %x", p)
	}
	b := of(t, E{63, on("run", "/a", true)}, E{2, on("a", "/", false)})
	if p := b.Bytes(); !bytes.Equal(p, []byte{2, 2, 1, 'a', 1, '/', 0, 63, 3, 'r', 'u', 'n', 2, '/', 'a', 1}) {
		t.Errorf("Bytes: %v", p)
	}
}

// P13.4: bytes of no book.
func TestReadErrors(t *testing.T) {
	one := E{1, on("read", "/a", false)}
	good := encoded(E{1, on("read", "/a", false)}, E{1, on("read", "/a", true)}, E{63, on("run", longest, false)})
	full := modelOf(most()).entries()
	texts := [][]byte{
		nil, {}, {1}, {0, 0}, {128, 0}, {128, 1, 1, 1, 'a', 1, '/', 0}, {1, 1, 1, 'a', 1, '/', 2}, {1, 1, 1, 'a', 1, '/', 128}, {1, 128, 1, 1, 'a', 1, '/', 0},
		{1, 1, 128, 1, 'a', 1, '/', 0}, {1, 1, 1, 'a', 128, 1, '/', 0}, {1, 1, 1, 'a', 1, '/', 0, 0}, {1, 1, 1, 'a', 1, '/', 128, 0}, {2, 1, 1, 'a', 1, '/', 0},
		{1, 129, 255, 255, 255, 255, 255, 255, 255, 255, 127, 1, 'a', 1, '/', 0}, {129, 255, 255, 255, 255, 255, 255, 255, 255, 127}, bytes.Repeat([]byte{255}, 20),
		{1, 1, 129, 255, 255, 255, 255, 255, 255, 255, 255, 127, 'a', 1, '/', 0},
		encoded(E{0, one.Permission}), encoded(E{64, one.Permission}), encoded(E{1000, one.Permission}), encoded(one, one), encoded(E{2, one.Permission}, one),
		encoded(E{1, on("read", "/a", true)}, one), encoded(E{1, on("read", "/b", false)}, one), encoded(E{1, on("run", "/", false)}, one),
		encoded(E{1, on("read", "/a-b", false)}, E{1, on("read", "/a/b", false)}), encoded(one, E{3, one.Permission}, E{2, one.Permission}),
		encoded(append(slices.Clone(full), E{63, on("zz", "/", true)})...), encoded(slices.Repeat([]E{one}, 1001)...), append(encoded(full...), 0),
		append(slices.Clone(good), 0), append([]byte{0}, good...),
	}
	for p := range wrong() {
		texts = append(texts, encoded(E{1, p}), encoded(one, E{2, p}))
	}
	for n := range good {
		texts = append(texts, good[:n])
	}
	for _, p := range texts {
		before := bytes.Clone(p)
		if b, e := grant.Read(p); b != nil || e != api.ErrForm {
			t.Errorf("Read(%.60x): %v, %v", p, b.Entries(), e)
		}
		if !bytes.Equal(p, before) {
			t.Errorf("Read(%.60x) has changed its argument", before)
		}
	}
	for _, l := range [][]E{nil, {one}, {one, {2, one.Permission}}, full} {
		if b, e := grant.Read(encoded(l...)); e != api.OK || !slices.Equal(b.Entries(), l) {
			t.Errorf("Read of %.60v: %v", l, e)
		}
	}
}

// P13.4: whatever is read has exactly these bytes.
func TestReadIsCanonical(t *testing.T) {
	r := rand.New(rand.NewSource(17))
	read := 0
	for range 10000 {
		p := encoded(E{1, on("a", "/", false)}, E{1, on("a", "/", true)}, E{1, on("a", "/a/b", true)}, E{3, on("a", "/b", false)})
		for range 1 + r.Intn(3) {
			p[r.Intn(len(p))] = []byte{0, 1, 2, 3, 'a', 'b', '/', 'z', 128, byte(r.Intn(256))}[r.Intn(10)]
		}
		p = p[:len(p)-r.Intn(3)*r.Intn(2)]
		b, e := grant.Read(p)
		if e == api.OK {
			read++
			if !of(t, b.Entries()...).Equal(b) || !bytes.Equal(encoded(b.Entries()...), p) {
				t.Fatalf("Read(%x): %v", p, b.Entries())
			}
		}
		if e == api.OK && !bytes.Equal(b.Bytes(), p) || e != api.OK && (b != nil || e != api.ErrForm) {
			t.Fatalf("Read(%x): %v, %v", p, b.Entries(), e)
		}
	}
	if read < 300 {
		t.Errorf("only %d books were read", read)
	}
}
