package crc

import (
	"bytes"

	"arbac/api"
)

// A frame begins with the length of its payload and the checksum of this length
// and the payload; fieldBytes is the length of either, headBytes that of both.
const (
	fieldBytes = 4
	headBytes  = 2 * fieldBytes
)

// Frame returns the frame of a payload.
func Frame(p []byte) ([]byte, api.Errno) {
	if len(p) > api.MaxRecord {
		return nil, api.ErrLimit
	}
	b := make([]byte, 0, headBytes+len(p))
	b = appendField(b, uint32(len(p)))
	b = appendField(b, Update(Sum(b), p))
	return append(b, p...), api.OK
}

// Next returns the payload of the frame at the beginning of b, and the length of the frame.
func Next(b []byte) (payload []byte, n int, ok bool) {
	if len(b) < headBytes {
		return nil, 0, false
	}
	length, rest := field(b), b[headBytes:]
	if length > api.MaxRecord || int(length) > len(rest) {
		return nil, 0, false
	}
	p := rest[:length]
	if field(b[fieldBytes:]) != Update(Sum(b[:fieldBytes]), p) {
		return nil, 0, false
	}
	return bytes.Clone(p), headBytes + len(p), true
}

// Scan returns the payloads of the frames at the beginning of b, and how many bytes these frames have.
func Scan(b []byte) (payloads [][]byte, good int) {
	for {
		p, n, ok := Next(b[good:])
		if !ok {
			return payloads, good
		}
		payloads = append(payloads, p)
		good += n
	}
}

// appendField appends four bytes to b, the lowest first.
func appendField(b []byte, v uint32) []byte {
	for range fieldBytes {
		b = append(b, byte(v))
		v >>= 8
	}
	return b
}

// field returns the number that the first four bytes of b stand for.
func field(b []byte) uint32 {
	v := uint32(0)
	for i := range fieldBytes {
		v |= uint32(b[i]) << (8 * i)
	}
	return v
}
