package cube_test

import (
	"bytes"
	"math/rand"
	"slices"
	"strconv"
	"strings"
	"testing"

	"arbac/api"
	"arbac/bits"
	"arbac/cube"
)

// text returns the text of a cube, as the definition says.
func text(c C) string {
	var l []string
	for _, x := range lits(c) {
		s := strconv.Itoa(x.role)
		if x.no {
			s = "!" + s
		}
		l = append(l, s)
	}
	if l == nil {
		return "full"
	}
	return strings.Join(l, " ")
}

// samples returns cubes of many shapes: the full one, empty ones, ones at the limits, random ones.
func samples() []C {
	all := bits.Below(4096)
	out := []C{
		{}, yes(0), no(0), both(0), yes(4095), no(4095), both(4095), yes(1, 2), no(1, 2), and(yes(2), no(1)), and(yes(1), no(2)),
		both(1, 2), {Yes: all}, {No: all}, {Yes: all, No: all}, {Yes: bits.Below(64)}, {No: bits.Below(64)}, {Yes: bits.Of(9, 10, 99, 100, 999, 1000), No: bits.Of(10, 11, 1001)},
	}
	r := rand.New(rand.NewSource(24))
	for range 300 {
		out = append(out, random(r))
	}
	return out
}

// P14.6
func TestText(t *testing.T) {
	for _, c := range samples() {
		s := text(c)
		if c.Text() != s {
			t.Fatalf("Text: %q, not %q", c.Text(), s)
		}
		if got, e := cube.Parse(s); e != api.OK || !equal(got, c) {
			t.Fatalf("Parse(%q): %s, %v", s, got.Text(), e)
		}
	}
}

// P14.6: texts of no cube.
func TestParseErrors(t *testing.T) {
	for _, s := range []string{
		"", " ", "!", "!!1", "! 1", "1!", "1 !", "full ", " full", "Full", "full 1", "1 full", "!full", "fullfull", "1 ", " 1", "1  2", "1,2", "1\t2", "1\n", "1 2\x00",
		"01", "+1", "-1", "-0", "!01", "!+1", "!-1", "00", "1.0", "1e1", "0x1", "1_0", "a", "{1}", "4096", "!4096", "5000", "9223372036854775807", "9223372036854775808",
		"18446744073709551617", strings.Repeat("9", 400), "2 1", "!2 !1", "2 !1", "!2 1", "1 1", "!1 !1", "!1 1", "1 !1 1", "!1 1 2", "1 4096", "4096 1", "\xff", "1 \xc2\xa02", "１",
	} {
		if c, e := cube.Parse(s); e != api.ErrForm || !equal(c, C{}) {
			t.Errorf("Parse(%q): %s, %v", s, c.Text(), e)
		}
	}
}

// P14.6: whatever is parsed has exactly this text.
func TestParseIsInverse(t *testing.T) {
	r := rand.New(rand.NewSource(25))
	parsed := 0
	for range 20000 {
		var s string
		for range 1 + r.Intn(6) {
			s += []string{"1", "2", "!", " ", " ", "3 ", " !", "0", "full"}[r.Intn(9)]
		}
		c, e := cube.Parse(s)
		if e == api.OK {
			parsed++
		}
		if e == api.OK && (c.Text() != s || text(c) != s) || e != api.OK && (e != api.ErrForm || !equal(c, C{})) {
			t.Fatalf("Parse(%q): %s, %v", s, c.Text(), e)
		}
	}
	if parsed < 500 {
		t.Errorf("only %d texts were parsed", parsed)
	}
}

// encoded returns the bytes of a cube, as the chapter describes them.
func encoded(c C) []byte {
	var p []byte
	for _, s := range []bits.Set{c.Yes, c.No} {
		var set []byte
		for i := range s.All() {
			set = append(set, make([]byte, max(0, i/8+1-len(set)))...)
			set[i/8] |= 1 << (i % 8)
		}
		if n := len(set); n >= 128 {
			p = append(p, byte(128+n/128))
		}
		p = append(append(p, byte(len(set)%128)), set...)
	}
	return p
}

// P14.7
func TestBytes(t *testing.T) {
	for _, c := range samples() {
		p := c.Bytes()
		if !bytes.Equal(p, encoded(c)) {
			t.Fatalf("Bytes of %.60s: %x, not %x", c.Text(), p, encoded(c))
		}
		got, e := cube.Read(p)
		if e != api.OK || !equal(got, c) {
			t.Fatalf("Read of the bytes of %.60s: %.60s, %v", c.Text(), got.Text(), e)
		}
		if !bytes.Equal(p, encoded(c)) {
			t.Fatalf("Read has changed its argument")
		}
		clear(p)
		if !equal(got, c) || !bytes.Equal(c.Bytes(), encoded(c)) {
			t.Fatalf("%.60s: a caller has changed a cube", c.Text())
		}
	}
}

// P14.7: bytes of no cube.
func TestReadErrors(t *testing.T) {
	good := encoded(and(yes(1, 9), no(3, 17)))
	texts := [][]byte{
		nil, {}, {0}, {0, 0, 0}, {1, 2}, {1, 2, 1}, {1, 2, 1, 8, 0}, {1, 0, 0}, {0, 1, 0}, {2, 2, 0, 0}, {0, 2, 2, 0}, {128, 0, 0}, {128, 1, 2, 0}, {1, 2, 128, 0}, {1, 2, 128, 1, 8},
		append(append([]byte{128 + 4, 1}, bytes.Repeat([]byte{1}, 513)...), 0), append([]byte{0, 128 + 4, 1}, bytes.Repeat([]byte{1}, 513)...),
		bytes.Repeat([]byte{255}, 30), {129, 255, 255, 255, 255, 255, 255, 255, 255, 127}, append(slices.Clone(good), 0), append([]byte{0}, good...),
	}
	for n := range good {
		texts = append(texts, good[:n])
	}
	for _, p := range texts {
		if c, e := cube.Read(p); e != api.ErrForm || !equal(c, C{}) {
			t.Errorf("Read(%.40x): %s, %v", p, c.Text(), e)
		}
	}
}

// P14.7: whatever is read has exactly these bytes.
func TestReadIsInverse(t *testing.T) {
	r := rand.New(rand.NewSource(26))
	read := 0
	for range 20000 {
		p := make([]byte, r.Intn(7))
		for i := range p {
			p[i] = []byte{0, 1, 2, 3, 8, 128, byte(r.Intn(256))}[r.Intn(7)]
		}
		c, e := cube.Read(p)
		if e == api.OK {
			read++
		}
		if e == api.OK && (!bytes.Equal(c.Bytes(), p) || !bytes.Equal(encoded(c), p)) || e != api.OK && (e != api.ErrForm || !equal(c, C{})) {
			t.Fatalf("Read(%x): %s, %v", p, c.Text(), e)
		}
	}
	if read < 500 {
		t.Errorf("only %d cubes were read", read)
	}
}

// P14.1, P14.4, P14.6, P14.7: the example of the chapter.
func TestExample(t *testing.T) {
	c := and(yes(1), no(3))
	if !cube.Holds(c, bits.Of(1)) || !cube.Holds(c, bits.Of(1, 2)) || cube.Holds(c, bits.Of(1, 3)) {
		t.Error("Holds")
	}
	if c.Text() != "1 !3" || !bytes.Equal(c.Bytes(), []byte{1, 2, 1, 8}) {
		t.Errorf("Text %q, Bytes %v", c.Text(), c.Bytes())
	}
}
