package keccak_test

import (
	"bytes"
	"encoding/hex"
	"math/rand"
	"strings"
	"testing"

	"arbac/api"
	"arbac/keccak"
)

// someIDs returns IDs that differ late, early, or everywhere.
func someIDs() []keccak.ID {
	ids := []keccak.ID{{}, {0: 1}, {0: 0x7f}, {0: 0x80}, {0: 0xff}, {31: 1}, {31: 0x80}, {31: 0xff}, {15: 3}, {0: 1, 31: 255}, {0: 1, 1: 1}}
	r := rand.New(rand.NewSource(7))
	for range 20 {
		var d keccak.ID
		r.Read(d[:])
		ids = append(ids, d)
	}
	return ids
}

// TestText is for P3.4: the digits stand in the order of the bytes, in lower case.
func TestText(t *testing.T) {
	d := keccak.ID{0x01, 0x23, 0x45, 0x67, 0x89, 0xab, 0xcd, 0xef, 31: 0xf0}
	if got := d.Text(); got != "0123456789abcdef"+strings.Repeat("0", 46)+"f0" {
		t.Error(got)
	}
	if got := (keccak.ID{}).Text(); got != strings.Repeat("0", 64) {
		t.Error(got)
	}
	for _, d := range someIDs() {
		if d.Text() != hex.EncodeToString(d[:]) {
			t.Error(d.Text())
		}
	}
}

// TestParse is for P3.4: Parse takes back what Text gives.
func TestParse(t *testing.T) {
	for _, d := range someIDs() {
		if got, e := keccak.Parse(d.Text()); got != d || e != api.OK {
			t.Errorf("Parse(%s): %s, %v", d.Text(), got.Text(), e)
		}
	}
}

// TestParseRefuses is for P3.4: whatever is no Text of an ID gives ErrForm, and the
// zero ID.
func TestParseRefuses(t *testing.T) {
	good := keccak.Sum(nil).Text()
	bad := []string{
		"", "0", good[:63], good[:62], good + "0", good + "00", good + good,
		strings.ToUpper(good), "A" + good[1:], good[:63] + "F",
		" " + good[1:], good[:63] + " ", good[:63] + "\n", "0x" + good[2:],
		"+" + good[1:], strings.Repeat("é", 32), strings.Repeat("0", 63) + "\x00",
	}
	for i := range 256 {
		if c := byte(i); !bytes.ContainsRune([]byte("0123456789abcdef"), rune(i)) || i > 127 {
			bad = append(bad, good[:10]+string([]byte{c})+good[11:], good[:11]+string([]byte{c})+good[12:])
		}
	}
	for _, s := range bad {
		if d, e := keccak.Parse(s); d != (keccak.ID{}) || e != api.ErrForm {
			t.Errorf("Parse(%q): %s, %v", s, d.Text(), e)
		}
	}
}

// TestCompare is for P3.5: the first byte that differs decides, as a number from 0
// to 255.
func TestCompare(t *testing.T) {
	for _, c := range []struct {
		a, b keccak.ID
		want int
	}{
		{keccak.ID{}, keccak.ID{}, 0},
		{keccak.ID{}, keccak.ID{31: 1}, -1},
		{keccak.ID{0: 0x7f}, keccak.ID{0: 0x80}, -1},
		{keccak.ID{0: 1}, keccak.ID{1: 0xff}, 1},
		{keccak.ID{5: 9, 6: 1}, keccak.ID{5: 9, 6: 2}, -1},
		{keccak.ID{5: 9, 6: 2, 7: 0}, keccak.ID{5: 9, 6: 1, 7: 255}, 1},
	} {
		if got := c.a.Compare(c.b); got != c.want {
			t.Errorf("Compare(%s, %s): %d", c.a.Text(), c.b.Text(), got)
		}
	}
}

// TestCompareTotal is for P3.5: Compare is a total order, and 0 for equal IDs only.
func TestCompareTotal(t *testing.T) {
	ids := someIDs()
	for _, a := range ids {
		for _, b := range ids {
			got := a.Compare(b)
			if got != -b.Compare(a) || (got == 0) != (a == b) || got < -1 || got > 1 {
				t.Fatalf("Compare(%s, %s): %d", a.Text(), b.Text(), got)
			}
			for _, c := range ids {
				if got <= 0 && b.Compare(c) <= 0 && a.Compare(c) > 0 {
					t.Fatalf("not transitive: %s %s %s", a.Text(), b.Text(), c.Text())
				}
			}
		}
	}
}
