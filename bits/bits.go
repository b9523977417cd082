// Package bits implements immutable sets of small numbers. See shared/doc/01-bits.md.
package bits

import (
	"iter"
	mathbits "math/bits"
	"slices"
)

// MaxMember is the greatest member of a set.
const MaxMember = 4095

// wordBits is the number of members that one word has room for.
const wordBits = 64

// Set is a set of numbers from 0 to MaxMember. The zero value is empty.
//
// The members below 64 have a word of their own, as roles and steps are such
// numbers: sets of them need no memory beside the value itself.
type Set struct {
	low uint64
	// high[k] has the members from 64(k+1) on. Its last word is not 0, and it is
	// nil rather than empty, so that equal sets have equal fields. Sets share it:
	// it is never written to once it is part of a set.
	high []uint64
}

// Of returns the set of some numbers.
func Of(l ...int) Set {
	words := make([]uint64, wordsFor(greatestOf(l)))
	for _, i := range l {
		if possible(i) {
			words[i/wordBits] |= bit(i)
		}
	}
	return pack(words)
}

// Below returns the set of the numbers 0 to n - 1.
func Below(n int) Set {
	n = min(max(n, 0), MaxMember+1)
	words := make([]uint64, wordsFor(n-1))
	for k := range words {
		words[k] = ^uint64(0)
	}
	if n%wordBits != 0 {
		words[n/wordBits] = bit(n) - 1
	}
	return pack(words)
}

// Has reports whether a number is a member.
func (s Set) Has(i int) bool {
	return possible(i) && s.word(i/wordBits)&bit(i) != 0
}

// With returns the set with a further member.
func (s Set) With(i int) Set {
	if !possible(i) || s.Has(i) {
		return s
	}
	if i < wordBits {
		return Set{low: s.low | bit(i), high: s.high}
	}
	high := make([]uint64, max(len(s.high), i/wordBits))
	copy(high, s.high)
	high[i/wordBits-1] |= bit(i)
	return Set{low: s.low, high: high}
}

// Without returns the set without a member.
func (s Set) Without(i int) Set {
	if !s.Has(i) {
		return s
	}
	if i < wordBits {
		return Set{low: s.low &^ bit(i), high: s.high}
	}
	high := slices.Clone(s.high)
	high[i/wordBits-1] &^= bit(i)
	return Set{low: s.low, high: trim(high)}
}

// Or returns the union.
func (s Set) Or(o Set) Set {
	if len(s.high) < len(o.high) {
		s, o = o, s
	}
	high := s.high
	if len(o.high) > 0 {
		high = slices.Clone(s.high)
		for k := range o.high {
			high[k] |= o.high[k]
		}
	}
	return Set{low: s.low | o.low, high: high}
}

// And returns the intersection.
func (s Set) And(o Set) Set {
	high := make([]uint64, min(len(s.high), len(o.high)))
	for k := range high {
		high[k] = s.high[k] & o.high[k]
	}
	return Set{low: s.low & o.low, high: trim(high)}
}

// Minus returns the difference.
func (s Set) Minus(o Set) Set {
	high := s.high
	if len(o.high) > 0 {
		high = slices.Clone(s.high)
		for k := range min(len(s.high), len(o.high)) {
			high[k] &^= o.high[k]
		}
	}
	return Set{low: s.low &^ o.low, high: trim(high)}
}

// Len returns the number of members.
func (s Set) Len() int {
	n := mathbits.OnesCount64(s.low)
	for _, w := range s.high {
		n += mathbits.OnesCount64(w)
	}
	return n
}

// Empty reports whether there is no member.
func (s Set) Empty() bool {
	return s.low == 0 && len(s.high) == 0
}

// Equal reports whether two sets have the same members.
func (s Set) Equal(o Set) bool {
	return s.low == o.low && slices.Equal(s.high, o.high)
}

// Within reports whether all members are members of o.
func (s Set) Within(o Set) bool {
	if s.low&^o.low != 0 || len(s.high) > len(o.high) {
		return false
	}
	for k := range s.high {
		if s.high[k]&^o.high[k] != 0 {
			return false
		}
	}
	return true
}

// Meets reports whether there is a common member.
func (s Set) Meets(o Set) bool {
	if s.low&o.low != 0 {
		return true
	}
	for k := range min(len(s.high), len(o.high)) {
		if s.high[k]&o.high[k] != 0 {
			return true
		}
	}
	return false
}

// Least returns the least member.
func (s Set) Least() (int, bool) {
	for k := range s.words() {
		if w := s.word(k); w != 0 {
			return leastIn(w, k), true
		}
	}
	return 0, false
}

// Greatest returns the greatest member.
func (s Set) Greatest() (int, bool) {
	if s.Empty() {
		return 0, false
	}
	k := s.words() - 1
	return k*wordBits + mathbits.Len64(s.word(k)) - 1, true
}

// List returns the members in ascending order.
func (s Set) List() []int {
	return slices.AppendSeq(make([]int, 0, s.Len()), s.All())
}

// All ranges over the members in ascending order.
func (s Set) All() iter.Seq[int] {
	return func(yield func(int) bool) {
		for k := range s.words() {
			for w := s.word(k); w != 0; w &= w - 1 {
				if !yield(leastIn(w, k)) {
					return
				}
			}
		}
	}
}

// Compare compares the ascending lists of members lexicographically.
func (s Set) Compare(o Set) int {
	d, differ := leastDifference(s, o)
	if !differ {
		return 0
	}
	sign, lacking := -1, o
	if o.Has(d) {
		sign, lacking = 1, s
	}
	// Up to d the lists agree. The one that lacks d goes on with a greater number,
	// or it ends there: then it is a beginning of the other one, and comes first.
	if last, ok := lacking.Greatest(); !ok || last < d {
		return -sign
	}
	return sign
}

// leastDifference returns the least number that is a member of one set only.
func leastDifference(s, o Set) (int, bool) {
	for k := range max(s.words(), o.words()) {
		if w := s.word(k) ^ o.word(k); w != 0 {
			return leastIn(w, k), true
		}
	}
	return 0, false
}

// possible reports whether a number can be a member of a set.
func possible(i int) bool {
	return i >= 0 && i <= MaxMember
}

// greatestOf returns the greatest number of a list that can be a member, or -1.
func greatestOf(l []int) int {
	most := -1
	for _, i := range l {
		if possible(i) {
			most = max(most, i)
		}
	}
	return most
}

// wordsFor returns how many words have room for the numbers up to i, from -1 on.
func wordsFor(i int) int {
	return (i + wordBits) / wordBits
}

// bit returns the place of a number within its word.
func bit(i int) uint64 {
	return 1 << (i % wordBits)
}

// leastIn returns the least member that word number k has if it is w.
func leastIn(w uint64, k int) int {
	return k*wordBits + mathbits.TrailingZeros64(w)
}

// words returns how many words there are up to the last one that is not 0: at
// least one, as the first word is always there.
func (s Set) words() int {
	return 1 + len(s.high)
}

// word returns word number k, which is 0 behind the last one.
func (s Set) word(k int) uint64 {
	switch {
	case k == 0:
		return s.low
	case k <= len(s.high):
		return s.high[k-1]
	}
	return 0
}

// pack returns the set with some words. It keeps them.
func pack(words []uint64) Set {
	if len(words) == 0 {
		return Set{}
	}
	return Set{low: words[0], high: trim(words[1:])}
}

// trim returns words without the zero words at the end; nil if none is left.
func trim(words []uint64) []uint64 {
	n := len(words)
	for n > 0 && words[n-1] == 0 {
		n--
	}
	if n == 0 {
		return nil
	}
	return words[:n]
}
