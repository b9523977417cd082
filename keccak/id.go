package keccak

import (
	"bytes"
	"strings"

	"arbac/api"
)

// ID is a digest.
type ID [32]byte

const digits = "0123456789abcdef"

// Text returns the hexadecimal digits.
func (d ID) Text() string {
	text := make([]byte, 0, 2*len(d))
	for _, b := range d {
		text = append(text, digits[b>>4], digits[b&15])
	}
	return string(text)
}

// Parse returns the digest with a text.
func Parse(s string) (ID, api.Errno) {
	var d ID
	if len(s) != 2*len(d) {
		return ID{}, api.ErrForm
	}
	for i := range d {
		high := strings.IndexByte(digits, s[2*i])
		low := strings.IndexByte(digits, s[2*i+1])
		if high < 0 || low < 0 {
			return ID{}, api.ErrForm
		}
		d[i] = byte(high<<4 | low)
	}
	return d, api.OK
}

// Compare compares two digests byte by byte.
func (d ID) Compare(o ID) int { return bytes.Compare(d[:], o[:]) }
