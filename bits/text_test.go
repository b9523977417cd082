package bits_test

import (
	"bytes"
	"slices"
	"strings"
	"testing"

	"arbac/api"
	"arbac/bits"
)

// P1.5
func TestText(t *testing.T) {
	for _, c := range []struct {
		s    bits.Set
		want string
	}{
		{bits.Set{}, "{}"},
		{bits.Of(0), "{0}"},
		{bits.Of(5, 1, 5, -3, 5000), "{1 5}"},
		{bits.Of(4095, 64, 63, 10, 9), "{9 10 63 64 4095}"},
	} {
		if got := c.s.Text(); got != c.want {
			t.Errorf("Text: %q, not %q", got, c.want)
		}
	}
}

// P1.5
func TestParse(t *testing.T) {
	for _, l := range append(lists(), bits.Below(4096).List()) {
		s := bits.Of(l...)
		if got, e := bits.Parse(s.Text()); e != api.OK || !got.Equal(s) {
			t.Errorf("Parse(%q): %v %s", s.Text(), e, got.Text())
		}
	}
	for _, s := range []string{"", " ", "{", "}", "}{", "{{}}", "{}{}", "1", "{1", "1}", " {1}", "{1} ", "{1}\n", "{ }", "{1  2}", "{1, 5}", "{5 1}", "{1,5}",
		"{ 1}", "{1 }", "{1\t2}", "{1\u00a02}", "{01}", "{+1}", "{-0}", "{-1}", "{1 1}", "{4096}", "{1 4096}", "{1_0}", "{0x1}", "{1.0}", "{a}", "{1}{2}", "[1]",
		"{99999999999999999999}", "{18446744073709551617}", "\x00", "{\xff}", "{" + strings.Repeat("1 ", 9000) + "1}"} {
		if got, e := bits.Parse(s); e != api.ErrForm || !got.Empty() {
			t.Errorf("Parse(%q): %v %s", s, e, got.Text())
		}
	}
}

// texts calls f with all strings of up to n characters that texts of sets and their neighbours have.
func texts(n int, begin string, f func(string)) {
	f(begin)
	if n == 0 {
		return
	}
	for _, c := range []string{"{", "}", " ", "0", "1", "4", "-", ","} {
		texts(n-1, begin+c, f)
	}
}

// P1.5: Parse accepts exactly the texts of sets.
func TestParseAcceptsTextsOnly(t *testing.T) {
	accepted := 0
	texts(6, "", func(s string) {
		got, e := bits.Parse(s)
		if e == api.OK && got.Text() != s || e != api.OK && (e != api.ErrForm || !got.Empty()) {
			t.Errorf("Parse(%q): %v %s", s, e, got.Text())
		}
		if e == api.OK {
			accepted++
		}
	})
	// The empty set; 3, 6, 18 and 27 + 9 single numbers of one to four digits; 3 + 3 * 6 pairs.
	if accepted != 85 {
		t.Errorf("%d texts are accepted", accepted)
	}
}

// P1.6
func TestBytes(t *testing.T) {
	for _, c := range []struct {
		s    bits.Set
		want []byte
	}{
		{bits.Set{}, nil},
		{bits.Of(0), []byte{1}},
		{bits.Of(7), []byte{128}},
		{bits.Of(8), []byte{0, 1}},
		{bits.Of(5, 1, 5, -3, 5000), []byte{34}},
		{bits.Of(0, 3, 63, 64), []byte{9, 0, 0, 0, 0, 0, 0, 128, 1}},
		{bits.Of(70, 9).Without(70), []byte{0, 2}},
		{bits.Of(4095), append(make([]byte, 511), 128)},
	} {
		if got := c.s.Bytes(); !bytes.Equal(got, c.want) {
			t.Errorf("Bytes of %s: %v", c.s.Text(), got)
		}
		if got, e := bits.Read(c.want); e != api.OK || !got.Equal(c.s) {
			t.Errorf("Read(%v): %v %s", c.want, e, got.Text())
		}
	}
	for _, l := range lists() {
		s := bits.Of(l...)
		if got, e := bits.Read(s.Bytes()); e != api.OK || !got.Equal(s) || !slices.Equal(got.List(), members(l)) {
			t.Errorf("Read of the bytes of %s: %v %s", s.Text(), e, got.Text())
		}
	}
}

// P1.6: Read accepts exactly the bytes of sets.
func TestReadAcceptsBytesOnly(t *testing.T) {
	for a := range 256 {
		for b := range 256 {
			p := []byte{byte(a), byte(b)}
			got, e := bits.Read(p)
			if b == 0 && (e != api.ErrForm || !got.Empty()) || b != 0 && (e != api.OK || !bytes.Equal(got.Bytes(), p)) {
				t.Fatalf("Read(%v): %v %s", p, e, got.Text())
			}
		}
	}
	full := bytes.Repeat([]byte{255}, 512)
	if got, e := bits.Read(full); e != api.OK || got.Len() != 4096 {
		t.Errorf("Read of 512 bytes: %v %d", e, got.Len())
	}
	for _, p := range [][]byte{{0}, {1, 0}, append(full, 1), append(full, 0), make([]byte, 512), make([]byte, 9999)} {
		if got, e := bits.Read(p); e != api.ErrForm || !got.Empty() {
			t.Errorf("Read of %d bytes: %v %s", len(p), e, got.Text())
		}
	}
}

// P1.6: a set keeps nothing of the bytes it is read from or written to.
func TestBytesAreCopies(t *testing.T) {
	p := []byte{34, 0, 0, 0, 0, 0, 0, 0, 2}
	s, _ := bits.Read(p)
	clear(p)
	clear(s.Bytes())
	check(t, "after its bytes are cleared", s, []int{1, 5, 65})
}
