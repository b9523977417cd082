package keccak

import mathbits "math/bits"

// state has the words A[x, y] as words number x + 5 y.
type state [25]uint64

// turns has the numbers R[x, y], in the order of the words.
var turns = [25]uint8{
	0, 1, 62, 28, 27,
	36, 44, 6, 55, 20,
	3, 10, 43, 25, 39,
	41, 45, 15, 21, 8,
	18, 2, 61, 56, 14,
}

// places has the numbers of the words B[y, 2 x + 3 y] that the words A[x, y] are
// moved to, in the order of the words.
var places = [25]uint8{
	0, 10, 20, 5, 15,
	16, 1, 11, 21, 6,
	7, 17, 2, 12, 22,
	23, 8, 18, 3, 13,
	14, 24, 9, 19, 4,
}

// roundConstants has the numbers RC[i].
var roundConstants = [24]uint64{
	0x0000000000000001, 0x0000000000008082, 0x800000000000808a, 0x8000000080008000,
	0x000000000000808b, 0x0000000080000001, 0x8000000080008081, 0x8000000000008009,
	0x000000000000008a, 0x0000000000000088, 0x0000000080008009, 0x000000008000000a,
	0x000000008000808b, 0x800000000000008b, 0x8000000000008089, 0x8000000000008003,
	0x8000000000008002, 0x8000000000000080, 0x000000000000800a, 0x800000008000000a,
	0x8000000080008081, 0x8000000000008080, 0x0000000080000001, 0x8000000080008008,
}

// permute applies the permutation.
func (a *state) permute() {
	for _, c := range roundConstants {
		a.mixColumns()
		b := a.moved()
		for y := 0; y < len(a); y += 5 {
			mixRow(a[y:y+5], b[y:y+5])
		}
		a[0] ^= c
	}
}

// mixColumns is step 1 of a round.
func (a *state) mixColumns() {
	var c [5]uint64
	for x := range c {
		c[x] = a[x] ^ a[x+5] ^ a[x+10] ^ a[x+15] ^ a[x+20]
	}
	for x := range c {
		d := c[(x+4)%5] ^ mathbits.RotateLeft64(c[(x+1)%5], 1)
		a[x] ^= d
		a[x+5] ^= d
		a[x+10] ^= d
		a[x+15] ^= d
		a[x+20] ^= d
	}
}

// moved is step 2 of a round.
func (a *state) moved() state {
	var b state
	for i, w := range a {
		b[places[i]] = mathbits.RotateLeft64(w, int(turns[i]))
	}
	return b
}

// mixRow sets the row a to what step 3 of a round makes of the row b.
func mixRow(a, b []uint64) {
	a[0] = b[0] ^ (^b[1] & b[2])
	a[1] = b[1] ^ (^b[2] & b[3])
	a[2] = b[2] ^ (^b[3] & b[4])
	a[3] = b[3] ^ (^b[4] & b[0])
	a[4] = b[4] ^ (^b[0] & b[1])
}
