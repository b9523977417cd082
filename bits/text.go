package bits

import (
	"strconv"
	"strings"

	"arbac/api"
)

// maxBytes is the length of the longest encoding of a set.
const maxBytes = (MaxMember + 1) / 8

// Text returns a set as text.
func (s Set) Text() string {
	p := []byte{'{'}
	for i := range s.All() {
		if len(p) > 1 {
			p = append(p, ' ')
		}
		p = strconv.AppendInt(p, int64(i), 10)
	}
	return string(append(p, '}'))
}

// Parse returns the set with a text.
func Parse(s string) (Set, api.Errno) {
	var l []int
	for f := range strings.FieldsSeq(strings.Trim(s, "{}")) {
		i, err := strconv.Atoi(f)
		if err != nil || !possible(i) || len(l) > MaxMember {
			return Set{}, api.ErrForm
		}
		l = append(l, i)
	}
	r := Of(l...)
	// The loop is generous about braces, blanks, leading zeros and the order.
	if r.Text() != s {
		return Set{}, api.ErrForm
	}
	return r, api.OK
}

// Bytes returns the encoding of a set.
func (s Set) Bytes() []byte {
	last, ok := s.Greatest()
	if !ok {
		return nil
	}
	p := make([]byte, last/8+1)
	for i := range p {
		p[i] = byte(s.word(i/8) >> (i % 8 * 8))
	}
	return p
}

// Read returns the set with an encoding.
func Read(p []byte) (Set, api.Errno) {
	if len(p) > maxBytes || len(p) > 0 && p[len(p)-1] == 0 {
		return Set{}, api.ErrForm
	}
	words := make([]uint64, (len(p)+7)/8)
	for i := range p {
		words[i/8] |= uint64(p[i]) << (i % 8 * 8)
	}
	return pack(words), api.OK
}
