package crc_test

import (
	"bytes"
	"encoding/binary"
	"hash/crc32"
	"slices"
	"testing"

	"arbac/api"
	"arbac/crc"
)

// framed returns the frame of p as the document defines it, without a limit.
func framed(p []byte) []byte {
	length := binary.LittleEndian.AppendUint32(nil, uint32(len(p)))
	sum := crc32.Checksum(append(bytes.Clone(length), p...), castagnoli)
	return append(binary.LittleEndian.AppendUint32(length, sum), p...)
}

// equalLists reports whether two lists have the same payloads.
func equalLists(a, b [][]byte) bool { return slices.EqualFunc(a, b, bytes.Equal) }

// TestFrame is for P4.3: the frames of payloads of all kinds of lengths.
func TestFrame(t *testing.T) {
	if b, e := crc.Frame(nil); e != api.OK || !bytes.Equal(b, []byte{0, 0, 0, 0, 0xc7, 0x4b, 0x67, 0x48}) {
		t.Errorf("the frame of nothing: %x, %v", b, e)
	}
	for _, n := range []int{0, 1, 2, 255, 256, 257, 5000, api.MaxRecord - 1, api.MaxRecord} {
		p := someBytes(n)
		before := bytes.Clone(p)
		b, e := crc.Frame(p)
		if e != api.OK || !bytes.Equal(b, framed(before)) {
			t.Errorf("the frame of %d bytes: %d bytes, %v", n, len(b), e)
		}
		if clear(b); !bytes.Equal(p, before) {
			t.Errorf("the frame of %d bytes shares the argument", n)
		}
	}
	for _, n := range []int{api.MaxRecord + 1, 70000} {
		if b, e := crc.Frame(make([]byte, n)); e != api.ErrLimit || len(b) != 0 {
			t.Errorf("the frame of %d bytes: %d bytes, %v", n, len(b), e)
		}
	}
}

// TestNext is for P4.3: the frame may be followed by anything.
func TestNext(t *testing.T) {
	for _, n := range []int{0, 1, 300, api.MaxRecord} {
		p := someBytes(n)
		for _, rest := range []string{"", "x", "other bytes, more than eight", string(framed(p))} {
			b := append(framed(p), rest...)
			got, length, ok := crc.Next(b)
			if !ok || length != n+8 || !bytes.Equal(got, p) {
				t.Errorf("Next, %d bytes and %q: %d bytes, %d, %v", n, rest, len(got), length, ok)
			}
			if clear(b); !bytes.Equal(got, p) {
				t.Errorf("the payload of %d bytes shares the argument", n)
			}
		}
	}
}

// refused checks that Next finds no frame.
func refused(t *testing.T, what string, b []byte) {
	t.Helper()
	if p, n, ok := crc.Next(b); len(p) != 0 || n != 0 || ok {
		t.Errorf("%s: %d bytes, %d, %v", what, len(p), n, ok)
	}
}

// TestNextRefuses is for P4.3: bytes that do not begin with a frame.
func TestNextRefuses(t *testing.T) {
	b := framed([]byte("a payload"))
	for k := range b {
		refused(t, "a frame that is cut", b[:k])
	}
	for i := range b {
		for bit := range 8 {
			c := bytes.Clone(b)
			c[i] ^= 1 << bit
			refused(t, "a frame with a wrong bit", c)
		}
	}
	refused(t, "nil", nil)
	refused(t, "a frame behind another byte", append([]byte{0}, b...))
	refused(t, "a payload above the limit", framed(make([]byte, api.MaxRecord+1)))
	refused(t, "a payload far above the limit", framed(make([]byte, 70000)))
	refused(t, "the greatest length", bytes.Repeat([]byte{255}, 100))
	refused(t, "zeros", make([]byte, 100))
	// The checksum covers the length too.
	alone := binary.LittleEndian.AppendUint32([]byte{1, 0, 0, 0}, crc.Sum([]byte("x")))
	refused(t, "the checksum of the payload alone", append(alone, 'x'))
}

// TestScan is for P4.4: as many frames as there are, up to what is no frame.
func TestScan(t *testing.T) {
	parts := [][]byte{[]byte("one"), nil, someBytes(api.MaxRecord), []byte("one")}
	var b []byte
	for _, p := range parts {
		b = append(b, framed(p)...)
	}
	wrong := framed([]byte("wrong"))
	wrong[9] ^= 1
	for _, rest := range [][]byte{nil, {0}, []byte("some other bytes"), wrong, append(wrong, framed([]byte("behind"))...)} {
		got, good := crc.Scan(append(bytes.Clone(b), rest...))
		if !equalLists(got, parts) || good != len(b) {
			t.Errorf("Scan with %x behind: %d payloads, %d bytes", rest, len(got), good)
		}
	}
	for _, none := range [][]byte{nil, {}, {1}, make([]byte, 50), wrong, append(wrong, b...)} {
		if got, good := crc.Scan(none); len(got) != 0 || good != 0 {
			t.Errorf("Scan without a frame: %d payloads, %d bytes", len(got), good)
		}
	}
}

// TestScanMemory is for P4.4, with the rule on memory: no payload shares any.
func TestScanMemory(t *testing.T) {
	b := append(framed([]byte("one")), framed([]byte("two"))...)
	got, _ := crc.Scan(b)
	clear(b)
	if len(got) != 2 {
		t.Fatal(len(got))
	}
	if _ = append(got[0], "is longer than a frame, and would reach into the next one"...); string(got[0]) != "one" || string(got[1]) != "two" {
		t.Errorf("%q", got)
	}
}

// TestScanCut is for P4.5: every cut.
func TestScanCut(t *testing.T) {
	parts := [][]byte{[]byte("first"), nil, someBytes(30), nil, nil, make([]byte, 20), someBytes(1)}
	var b []byte
	var ends []int
	for _, p := range parts {
		f, e := crc.Frame(p)
		if e != api.OK {
			t.Fatal(e)
		}
		b = append(b, f...)
		ends = append(ends, len(b))
	}
	for k := range len(b) + 1 {
		whole, want := 0, 0
		for i, end := range ends {
			if end <= k {
				whole, want = i+1, end
			}
		}
		if got, good := crc.Scan(b[:k]); !equalLists(got, parts[:whole]) || good != want {
			t.Errorf("cut at %d: %d payloads, %d bytes", k, len(got), good)
		}
	}
}
