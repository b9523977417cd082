package keccak_test

import (
	"bytes"
	"crypto/sha3"
	"math/rand"
	"testing"

	"arbac/keccak"
	"arbac/wire"
)

// The digest of no bytes, and that of abc.
const (
	ofNothing = "a7ffc6f8bf1ed76651c14756a061d662f580ff4de43b49fa82d80a4b80f8434a"
	ofABC     = "3a985da74fe225b2045c172d6bd390bd855f086e3e9d525b46bfe24511431532"
)

// block is the number of bytes that are absorbed at once.
const block = 136

// someBytes returns n bytes, the same ones each time.
func someBytes(n int) []byte {
	p := make([]byte, n)
	rand.New(rand.NewSource(int64(n))).Read(p)
	return p
}

// TestSumKnown is for P3.1: digests that FIPS 202 and its test vectors give.
func TestSumKnown(t *testing.T) {
	for _, c := range []struct{ message, want string }{
		{"", ofNothing},
		{"abc", ofABC},
		{"abcdbcdecdefdefgefghfghighijhijkijkljklmklmnlmnomnopnopq", "41c0dba2a9d6240849100376a8235e2c82e1b9998a999e21db32dd97496d3376"},
		{string(bytes.Repeat([]byte{0xa3}, 200)), "79f38adec5c20307a98ef76e8324afbfd46cfd81b22e3973c65fa1bd9de31787"},
	} {
		if got := keccak.Sum([]byte(c.message)).Text(); got != c.want {
			t.Errorf("Sum(%q): %s", c.message, got)
		}
	}
	if got := keccak.Sum(nil).Text(); got != ofNothing {
		t.Errorf("Sum of nil: %s", got)
	}
}

// TestSumLengths is for P3.1: all lengths of up to three blocks. Those that are one
// less than a multiple of 136 have both bytes of the padding in one.
func TestSumLengths(t *testing.T) {
	for n := range 3*block + 3 {
		p := someBytes(n)
		if got, want := keccak.Sum(p), keccak.ID(sha3.Sum256(p)); got != want {
			t.Errorf("%d bytes: %s, not %s", n, got.Text(), want.Text())
		}
	}
	p := someBytes(100000)
	if keccak.Sum(p) != keccak.ID(sha3.Sum256(p)) {
		t.Error("100000 bytes")
	}
}

// TestHashPieces is for P3.2: a hash gives the digest of what was written, whatever
// the pieces are, and its digest can be asked for in between.
func TestHashPieces(t *testing.T) {
	r := rand.New(rand.NewSource(3))
	for range 200 {
		h := keccak.New()
		var all []byte
		for range 1 + r.Intn(8) {
			p := someBytes([]int{0, 1, r.Intn(20), r.Intn(300), block - 1, block, block + 1, 2 * block}[r.Intn(8)])
			h.Write(p)
			all = append(all, p...)
			if h.Sum() != keccak.ID(sha3.Sum256(all)) || h.Len() != uint64(len(all)) {
				t.Fatalf("%d bytes: %s, length %d", len(all), h.Sum().Text(), h.Len())
			}
		}
		if h.Sum() != h.Sum() || h.Len() != uint64(len(all)) {
			t.Fatal("Sum changed the hash")
		}
	}
}

// TestHashSingleBytes is for P3.2: pieces of one byte each.
func TestHashSingleBytes(t *testing.T) {
	p := someBytes(2*block + 9)
	h := keccak.New()
	for i := range p {
		h.Write(p[i : i+1])
	}
	if h.Sum() != keccak.Sum(p) || h.Len() != uint64(len(p)) {
		t.Error(h.Sum().Text(), h.Len())
	}
}

// TestHashNew is for P3.2: a new hash, and the zero value, are hashes of no bytes.
func TestHashNew(t *testing.T) {
	h := keccak.New()
	if h == nil || h.Sum().Text() != ofNothing || h.Len() != 0 {
		t.Error("New")
	}
	if h == keccak.New() {
		t.Error("New returned one hash twice")
	}
	var z keccak.Hash
	if z.Sum().Text() != ofNothing || z.Len() != 0 {
		t.Error("the zero Hash")
	}
	z.Write([]byte("abc"))
	if z.Sum().Text() != ofABC {
		t.Error("the zero Hash, after Write")
	}
	h.Write(nil)
	h.Write([]byte{})
	if h.Sum().Text() != ofNothing || h.Len() != 0 {
		t.Error("Write of no bytes")
	}
}

// TestHashCopy is for P3.2: neither of two copies sees what the other one gets.
func TestHashCopy(t *testing.T) {
	for _, n := range []int{0, 1, block - 1, block, block + 5} {
		p := someBytes(n)
		h := keccak.New()
		h.Write(p)
		c := h.Copy()
		if c == h || c.Sum() != h.Sum() || c.Len() != h.Len() {
			t.Fatalf("%d bytes: the copy differs", n)
		}
		h.Write([]byte("left"))
		c.Write([]byte("a right one"))
		if h.Sum() != keccak.Sum(append(bytes.Clone(p), "left"...)) || h.Len() != uint64(n+4) {
			t.Errorf("%d bytes: the hash sees its copy", n)
		}
		if c.Sum() != keccak.Sum(append(bytes.Clone(p), "a right one"...)) || c.Len() != uint64(n+11) {
			t.Errorf("%d bytes: the copy sees its hash", n)
		}
		h.Reset()
		if c.Len() != uint64(n+11) {
			t.Errorf("%d bytes: Reset of the hash reaches the copy", n)
		}
	}
}

// TestHashReset is for P3.2.
func TestHashReset(t *testing.T) {
	for _, n := range []int{0, 7, block, block + 7} {
		h := keccak.New()
		h.Write(someBytes(n))
		h.Sum()
		h.Reset()
		if h.Sum().Text() != ofNothing || h.Len() != 0 {
			t.Errorf("Reset after %d bytes: %s, %d", n, h.Sum().Text(), h.Len())
		}
		h.Write([]byte("abc"))
		if h.Sum().Text() != ofABC || h.Len() != 3 {
			t.Errorf("Write after Reset after %d bytes", n)
		}
	}
}

// TestHashNil is for P3.2: what a nil hash does.
func TestHashNil(t *testing.T) {
	var h *keccak.Hash
	h.Write([]byte("abc"))
	h.Reset()
	if h.Sum() != (keccak.ID{}) || h.Len() != 0 || h.Copy() != nil {
		t.Error("nil")
	}
}

// TestHashArguments is for P3.2, with the rule on memory: bytes that were written
// are neither kept nor changed.
func TestHashArguments(t *testing.T) {
	p := someBytes(block + 20)
	before := bytes.Clone(p)
	h := keccak.New()
	h.Write(p)
	if keccak.Sum(p); !bytes.Equal(p, before) {
		t.Error("an argument was changed")
	}
	clear(p)
	if h.Sum() != keccak.Sum(before) {
		t.Error("an argument was kept")
	}
}

// TestTagged is for P3.3.
func TestTagged(t *testing.T) {
	long := someBytes(1000)
	for _, c := range []struct {
		tag   string
		parts [][]byte
	}{
		{"", nil},
		{"state", nil},
		{"state", [][]byte{nil}},
		{"state", [][]byte{{}, []byte("ab"), long}},
		{string(long), [][]byte{long, long}},
	} {
		w := wire.NewWriter()
		w.String(c.tag)
		for _, p := range c.parts {
			w.Bytes(p)
		}
		if keccak.Tagged(c.tag, c.parts...) != keccak.Sum(w.Out()) {
			t.Errorf("Tagged(%q) of %d parts", c.tag, len(c.parts))
		}
	}
	if keccak.Tagged("ab", []byte("c"), []byte{0, 255}) != keccak.Sum([]byte{2, 'a', 'b', 1, 'c', 2, 0, 255}) {
		t.Error("the encodings of layer 2 are not used")
	}
	if keccak.Tagged("") != keccak.Sum([]byte{0}) {
		t.Error("the empty tag")
	}
}

// TestTaggedDivision is for P3.3: the same bytes, divided otherwise, are other parts.
func TestTaggedDivision(t *testing.T) {
	seen := map[keccak.ID]bool{
		keccak.Tagged("ab"):                         true,
		keccak.Tagged("a", []byte("b")):             true,
		keccak.Tagged("", []byte("ab")):             true,
		keccak.Tagged("", []byte("a"), []byte("b")): true,
		keccak.Tagged("ab", nil):                    true,
		keccak.Tagged("", nil, []byte("ab")):        true,
	}
	if len(seen) != 6 {
		t.Errorf("%d digests", len(seen))
	}
}
