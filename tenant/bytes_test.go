package tenant_test

import (
	"bytes"
	"math/rand"
	"slices"
	"strings"
	"testing"

	"arbac/api"
	"arbac/keccak"
	"arbac/state"
	"arbac/tenant"
)

// part is a tenant in the bytes of a house.
type part struct {
	name    string
	version uint64
	state   []byte
}

// number appends the encoding of a number.
func number(p []byte, n uint64) []byte {
	var groups []byte
	for v := n; len(groups) == 0 || v > 0; v >>= 7 {
		groups = append(groups, byte(v&127)|128)
	}
	slices.Reverse(groups)
	groups[len(groups)-1] &= 127
	return append(p, groups...)
}

// encoded returns the bytes of tenants, as the chapter describes them, in any order and whatever they are.
func encoded(l ...part) []byte {
	out := number(nil, uint64(len(l)))
	for _, x := range l {
		out = append(number(out, uint64(len(x.name))), x.name...)
		out = number(out, x.version)
		out = append(number(out, uint64(len(x.state))), x.state...)
	}
	return out
}

// parts returns the tenants of a house.
func parts(h *H) []part {
	var l []part
	for _, name := range h.Names() {
		s, _ := h.Get(name)
		l = append(l, part{name, uint64(h.Version(name)), s.Bytes()})
	}
	return l
}

// sixteen returns the names of as many tenants as there may be.
func sixteen() []string { return strings.Fields("p o n m l k j i h g f e d c b a") }

// larger returns a house with several tenants, some of which have had transactions.
func larger(t *testing.T) *H {
	t.Helper()
	h := done(t, founded(t, "bank", "abcdefghijkl", "z_1"), "bank", addUser("ann"), addRole("clerk"), appoint(1, 1, 300))
	return done(t, done(t, h, "z_1", addUser("bob")), "bank", day(200))
}

// P26.5
func TestBytes(t *testing.T) {
	for _, h := range []*H{tenant.New(), founded(t, "a"), founded(t, sixteen()...), larger(t)} {
		p, want := h.Bytes(), encoded(parts(h)...)
		if !bytes.Equal(p, want) {
			t.Errorf("Bytes: %x, not %x", p, want)
		}
		if h.Digest() != keccak.Tagged("house", want) {
			t.Errorf("Digest: %s", h.Digest().Text())
		}
		read, e := tenant.Read(p)
		if e != api.OK || !read.Equal(h) || !bytes.Equal(p, want) {
			t.Fatalf("Read(%x): error %d", p, e)
		}
		clear(p)
		if !bytes.Equal(h.Bytes(), want) || !bytes.Equal(read.Bytes(), want) || !slices.Equal(read.Names(), h.Names()) || read.Digest() != h.Digest() {
			t.Error("a caller has changed a house")
		}
	}
}

// P26.5: by hand.
func TestBytesByHand(t *testing.T) {
	h := done(t, founded(t, "b", "a"), "a", addUser("u"))
	const want = "\x02" +
		"\x01a\x01\x13" + "\x00" + "\x03\x01\x01u" + "\x01\x00" + "\x00" + "\x01\x00" + "\x01\x00" + "\x01\x00" + "\x01\x00" + "\x00" + "\x01\x00" +
		"\x01b\x00\x11" + "\x00" + "\x01\x00" + "\x01\x00" + "\x00" + "\x01\x00" + "\x01\x00" + "\x01\x00" + "\x01\x00" + "\x00" + "\x01\x00"
	if p := h.Bytes(); string(p) != want {
		t.Errorf("Bytes: %x, not %x", p, want)
	}
	if read, e := tenant.Read([]byte(want)); e != api.OK || !read.Equal(h) {
		t.Errorf("Read: error %d", e)
	}
}

// P26.5: versions.
func TestReadVersions(t *testing.T) {
	empty := state.New().Bytes()
	for _, v := range []uint64{0, 1, 127, 128, 1 << 31, 1 << 32, 1<<53 - 1, 1 << 53} {
		h, e := tenant.Read(encoded(part{"a", v, empty}))
		if e != api.OK || h.Version("a") != int(v) || !bytes.Equal(h.Bytes(), encoded(part{"a", v, empty})) {
			t.Errorf("version %d: error %d", v, e)
		}
	}
	for _, v := range []uint64{1<<53 + 1, 1 << 62, 1 << 63, 1<<64 - 1} {
		misread(t, encoded(part{"a", v, empty}))
	}
	h, _ := tenant.Read(encoded(part{"a", 1<<53 - 1, empty}))
	if h := done(t, h, "a", day(1)); h.Version("a") != 1<<53 {
		t.Errorf("version %d", h.Version("a"))
	}
}

// misread checks that bytes are those of no house.
func misread(t *testing.T, p []byte) {
	t.Helper()
	before := bytes.Clone(p)
	if h, e := tenant.Read(p); h != nil || e != api.ErrForm {
		t.Errorf("Read(%.100x): error %d", p, e)
	}
	if !bytes.Equal(p, before) {
		t.Errorf("Read(%.100x) has changed its argument", before)
	}
}

// P26.5: bytes of no house.
func TestReadErrors(t *testing.T) {
	h := larger(t)
	good := h.Bytes()
	for n := range good {
		misread(t, good[:n])
	}
	misread(t, append(slices.Clone(good), 0))
	misread(t, append([]byte{0}, good...))
	misread(t, append([]byte{128}, good...))
	misread(t, bytes.Repeat([]byte{255}, 40))
	empty := state.New().Bytes()
	for _, l := range [][]part{
		{{"b", 0, empty}, {"a", 0, empty}}, {{"a", 0, empty}, {"a", 0, empty}}, {{"a", 0, empty}, {"c", 1, empty}, {"b", 0, empty}}, {{"a", 0, empty}, {"a", 1, empty}},
		{{"", 0, empty}}, {{"by", 0, empty}}, {{"A", 0, empty}}, {{"2nd", 0, empty}}, {{"abcdefghijklm", 0, empty}}, {{"a", 0, empty}, {"by", 0, empty}}, {{strings.Repeat("a", 1000), 0, empty}},
		{{"a", 0, nil}}, {{"a", 0, empty[1:]}}, {{"a", 0, empty[:len(empty)-1]}}, {{"a", 0, append(slices.Clone(empty), 0)}}, {{"a", 0, empty}, {"b", 0, []byte{0}}},
	} {
		misread(t, encoded(l...))
	}
	full := parts(founded(t, sixteen()...))
	if _, e := tenant.Read(encoded(full...)); e != api.OK {
		t.Errorf("16 tenants: error %d", e)
	}
	misread(t, encoded(append(full, part{"q", 0, empty})...))
	misread(t, append([]byte{15}, encoded(full...)[1:]...))
	misread(t, append([]byte{17}, encoded(full...)[1:]...))
}

// P26.5: whatever is read has exactly these bytes.
func TestReadIsCanonical(t *testing.T) {
	r := rand.New(rand.NewSource(265))
	good, reads := larger(t).Bytes(), 0
	for range 30000 {
		p := slices.Clone(good)
		for range 1 + r.Intn(2) {
			p[r.Intn(len(p))] = []byte{0, 1, 2, 3, 4, 5, 9, 'a', 'z', 128, 129, byte(r.Intn(256))}[r.Intn(12)]
		}
		h, e := tenant.Read(p)
		if e == api.OK {
			reads++
		}
		if e == api.OK && (!bytes.Equal(h.Bytes(), p) || !bytes.Equal(encoded(parts(h)...), p)) || e != api.OK && (h != nil || e != api.ErrForm) {
			t.Fatalf("Read(%x): error %d", p, e)
		}
	}
	if reads < 1000 {
		t.Errorf("only %d houses were read", reads)
	}
}
