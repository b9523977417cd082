package wire

import (
	"bytes"

	"arbac/api"
	"arbac/bits"
)

// maxSet is the length of the longest encoding of a set.
const maxSet = (bits.MaxMember + 1) / 8

// Reader reads values from bytes.
type Reader struct {
	left []byte
	err  api.Errno
}

// NewReader returns a reader of the bytes.
func NewReader(p []byte) *Reader {
	// A copy, as the caller may write to its bytes while they are read.
	return &Reader{left: bytes.Clone(p)}
}

// Uint reads a number of at most most.
func (r *Reader) Uint(most uint64) uint64 {
	if !r.ready() {
		return 0
	}
	return r.bounded(most, api.ErrRange)
}

// Number reads a number of at most most.
func (r *Reader) Number(most int) int {
	if !r.readyFor(most) {
		return 0
	}
	return int(r.bounded(uint64(most), api.ErrRange))
}

// Int reads a number with a sign, from low to high.
func (r *Reader) Int(low, high int64) int64 {
	if !r.ready() {
		return 0
	}
	u, n := number(r.left)
	v := int64(u >> 1)
	if u&1 != 0 {
		v = -v - 1
	}
	switch {
	case low > high:
		r.err = api.ErrArg
	case n == 0:
		r.err = api.ErrForm
	case v < low || v > high:
		r.err = api.ErrRange
	default:
		r.take(n)
		return v
	}
	return 0
}

// String reads a string of at most most bytes.
func (r *Reader) String(most int) string {
	return string(r.piece(most))
}

// Bytes reads a byte string of at most most bytes.
func (r *Reader) Bytes(most int) []byte {
	return bytes.Clone(r.piece(most))
}

// Flag reads a flag.
func (r *Reader) Flag() bool {
	if !r.ready() {
		return false
	}
	if len(r.left) == 0 || r.left[0] > 1 {
		r.err = api.ErrForm
		return false
	}
	return r.take(1)[0] == 1
}

// Raw reads n bytes as they are.
func (r *Reader) Raw(n int) []byte {
	if !r.readyFor(n) {
		return nil
	}
	if n > len(r.left) {
		r.err = api.ErrForm
		return nil
	}
	return bytes.Clone(r.take(n))
}

// Count reads the length of a list of at most most elements.
func (r *Reader) Count(most int) int {
	if !r.readyFor(most) {
		return 0
	}
	return int(r.bounded(uint64(most), api.ErrLimit))
}

// Set reads a set whose members are at most most.
func (r *Reader) Set(most int) bits.Set {
	if !r.ready() {
		return bits.Set{}
	}
	before := r.left
	s, e := bits.Read(r.piece(maxSet))
	if last, ok := s.Greatest(); ok && last > most {
		e = api.ErrRange
	}
	if e != api.OK {
		r.left, r.err = before, e
		return bits.Set{}
	}
	return s
}

// Left returns how many bytes are left.
func (r *Reader) Left() int {
	if r == nil {
		return 0
	}
	return len(r.left)
}

// Fail sets the error, if there is none.
func (r *Reader) Fail(e api.Errno) {
	if r.ready() {
		r.err = e
	}
}

// Err returns the error.
func (r *Reader) Err() api.Errno {
	if r == nil {
		return api.ErrArg
	}
	return r.err
}

// End returns the error, or ErrForm if bytes are left.
func (r *Reader) End() api.Errno {
	if r.ready() && len(r.left) > 0 {
		return api.ErrForm
	}
	return r.Err()
}

// ready reports whether values can be read: there is a reader without an error.
func (r *Reader) ready() bool {
	return r != nil && r.err == api.OK
}

// readyFor is ready with an argument that must not be negative.
func (r *Reader) readyFor(n int) bool {
	if n < 0 {
		r.Fail(api.ErrArg)
	}
	return r.ready()
}

// bounded takes a number, or sets above if it is more than most.
func (r *Reader) bounded(most uint64, above api.Errno) uint64 {
	v, n := number(r.left)
	switch {
	case n == 0:
		r.err = api.ErrForm
	case v > most:
		r.err = above
	default:
		r.take(n)
		return v
	}
	return 0
}

// piece takes a byte string. The result is a part of the reader's own bytes.
func (r *Reader) piece(most int) []byte {
	if !r.readyFor(most) {
		return nil
	}
	length, n := number(r.left)
	switch {
	case n == 0:
		r.err = api.ErrForm
	case length > uint64(most):
		r.err = api.ErrLimit
	case length > uint64(len(r.left)-n):
		r.err = api.ErrForm
	default:
		return r.take(n + int(length))[n:]
	}
	return nil
}

// take takes n bytes, which must be there.
func (r *Reader) take(n int) []byte {
	p := r.left[:n]
	r.left = r.left[n:]
	return p
}

// number returns the number that bytes begin with, and the length of its
// encoding; 0 and 0 if there is none.
func number(p []byte) (uint64, int) {
	if len(p) > 1 && p[0] == more {
		return 0, 0
	}
	v := uint64(0)
	for i, b := range p {
		if v>>(64-groupBits) != 0 {
			return 0, 0
		}
		v = v<<groupBits | uint64(b&(more-1))
		if b < more {
			return v, i + 1
		}
	}
	return 0, 0
}
