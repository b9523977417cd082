// Package wire is layer 2: see shared/doc/02-wire.md.
package wire

import (
	"bytes"
	mathbits "math/bits"

	"arbac/bits"
)

// A number is written in groups of groupBits bits. more marks the bytes of all
// groups but the last.
const (
	groupBits = 7
	more      = 1 << groupBits
)

// Writer collects the bytes of values.
type Writer struct {
	out []byte
}

// NewWriter returns a writer without bytes.
func NewWriter() *Writer { return &Writer{} }

// Uint writes a number.
func (w *Writer) Uint(v uint64) {
	if w == nil {
		return
	}
	last := (max(mathbits.Len64(v), 1) - 1) / groupBits
	for i := range last {
		w.out = append(w.out, byte(v>>((last-i)*groupBits))|more)
	}
	w.out = append(w.out, byte(v)&(more-1))
}

// Int writes a number with a sign.
func (w *Writer) Int(v int64) {
	if v < 0 {
		w.Uint(uint64(-(v+1))<<1 | 1)
	} else {
		w.Uint(uint64(v) << 1)
	}
}

// String writes a string.
func (w *Writer) String(s string) {
	if w == nil {
		return
	}
	w.Uint(uint64(len(s)))
	w.out = append(w.out, s...)
}

// Bytes writes a byte string.
func (w *Writer) Bytes(p []byte) {
	w.Uint(uint64(len(p)))
	w.Raw(p)
}

// Flag writes a flag.
func (w *Writer) Flag(b bool) {
	if b {
		w.Uint(1)
	} else {
		w.Uint(0)
	}
}

// Raw writes bytes as they are.
func (w *Writer) Raw(p []byte) {
	if w == nil {
		return
	}
	w.out = append(w.out, p...)
}

// Set writes a set.
func (w *Writer) Set(s bits.Set) {
	w.Bytes(s.Bytes())
}

// Out returns the bytes.
func (w *Writer) Out() []byte {
	if w == nil {
		return nil
	}
	return bytes.Clone(w.out)
}
