package crc_test

import (
	"bytes"
	"hash/crc32"
	"math"
	"math/rand"
	"testing"
	"time"

	"arbac/crc"
)

var castagnoli = crc32.MakeTable(crc32.Castagnoli)

// steps returns what n steps make of c, as the document defines a step.
func steps(c uint32, n int) uint32 {
	for range n {
		low := c & 1
		c >>= 1
		if low == 1 {
			c ^= 0x82F63B78
		}
	}
	return c
}

// takenIn returns what taking in a byte makes of c.
func takenIn(c uint32, b byte) uint32 { return steps(c^uint32(b), 8) }

// someBytes returns n bytes, the same ones each time.
func someBytes(n int) []byte {
	p := make([]byte, n)
	rand.New(rand.NewSource(int64(n))).Read(p)
	return p
}

// TestSum is for P4.1: known checksums, every single byte, and many lengths.
func TestSum(t *testing.T) {
	for _, c := range []struct {
		p    []byte
		want uint32
	}{
		{nil, 0},
		{[]byte{}, 0},
		{[]byte("123456789"), 0xE3069283},
		{[]byte{0}, 0x527D5351},
		{[]byte{0, 0, 0, 0}, 0x48674BC7},
		{make([]byte, 32), 0x8A9136AA},
		{bytes.Repeat([]byte{255}, 32), 0x62A8AB43},
	} {
		if got := crc.Sum(c.p); got != c.want {
			t.Errorf("Sum(%x): %x", c.p, got)
		}
	}
	for i := range 256 {
		if got, want := crc.Sum([]byte{byte(i)}), ^takenIn(0xFFFFFFFF, byte(i)); got != want {
			t.Errorf("Sum of the byte %d: %x, not %x", i, got, want)
		}
	}
	for n := range 200 {
		p := someBytes(n)
		if got, want := crc.Sum(p), crc32.Checksum(p, castagnoli); got != want {
			t.Errorf("Sum of %d bytes: %x, not %x", n, got, want)
		}
	}
}

// TestUpdate is for P4.1: Update is defined for all numbers, not only checksums.
func TestUpdate(t *testing.T) {
	r := rand.New(rand.NewSource(4))
	for n := range 100 {
		c, p := r.Uint32(), someBytes(n)
		before := bytes.Clone(p)
		want := ^c
		for _, b := range p {
			want = takenIn(want, b)
		}
		if got := crc.Update(c, p); got != ^want {
			t.Errorf("Update(%x) of %d bytes: %x, not %x", c, n, got, ^want)
		}
		if !bytes.Equal(p, before) {
			t.Error("the argument was changed")
		}
	}
	if crc.Update(77, nil) != 77 {
		t.Error("Update with no bytes")
	}
}

// TestUpdateConcatenates is for P4.1: whatever the parts are.
func TestUpdateConcatenates(t *testing.T) {
	p := someBytes(60)
	for k := range len(p) + 1 {
		if crc.Update(crc.Sum(p[:k]), p[k:]) != crc.Sum(p) {
			t.Errorf("divided at %d", k)
		}
	}
}

// TestCombineConcatenates is for P4.2: the checksum of a concatenation.
func TestCombineConcatenates(t *testing.T) {
	for _, total := range []int{0, 1, 60, 3000} {
		p := someBytes(total)
		for k := 0; k <= total; k += max(1, total/60) {
			if got := crc.Combine(crc.Sum(p[:k]), crc.Sum(p[k:]), total-k); got != crc.Sum(p) {
				t.Errorf("%d bytes, divided at %d: %x", total, k, got)
			}
		}
	}
}

// TestCombineSteps is for P4.2: Combine is defined for all numbers a and b.
func TestCombineSteps(t *testing.T) {
	r := rand.New(rand.NewSource(5))
	for n := range 300 {
		a, b := r.Uint32(), r.Uint32()
		if got, want := crc.Combine(a, b, n), b^steps(a, 8*n); got != want {
			t.Errorf("Combine(%x, %x, %d): %x, not %x", a, b, n, got, want)
		}
	}
	if crc.Combine(0, 9, 1000) != 9 {
		t.Error("nothing before")
	}
}

// TestCombineFewBytes is for P4.2: below 1 there are no steps.
func TestCombineFewBytes(t *testing.T) {
	for _, n := range []int{0, -1, -8, math.MinInt32, math.MinInt} {
		if got := crc.Combine(0xF00F1234, 0xFF, n); got != 0xF00F12CB {
			t.Errorf("Combine with %d bytes: %x", n, got)
		}
	}
}

// TestCombineManyBytes is for P4.2: great numbers of bytes. The bytes of two parts
// that follow can be counted together; and it takes no time.
func TestCombineManyBytes(t *testing.T) {
	start := time.Now()
	for _, n := range []int{1 << 20, 1 << 31, 1<<40 + 12345, math.MaxInt / 2, math.MaxInt} {
		for _, m := range []int{1, 1000, n / 3, n - 1} {
			a := uint32(0xDEADBEEF)
			if got, want := crc.Combine(a, 0, n), crc.Combine(crc.Combine(a, 0, m), 0, n-m); got != want {
				t.Errorf("%d bytes, %d of them first: %x, not %x", n, m, got, want)
			}
		}
	}
	if p := make([]byte, 1<<20); crc.Combine(crc.Sum([]byte("x")), crc.Sum(p), 1<<20) != crc.Sum(append([]byte("x"), p...)) {
		t.Error("2^20 bytes")
	}
	if d := time.Since(start); d > 5*time.Second {
		t.Errorf("it took %v", d)
	}
}
