package token

import (
	"slices"

	"arbac/api"
	"arbac/names"
)

// Reader reads tokens one by one.
type Reader struct {
	list []Token
	// next is the number of the token at which the reader stands; the length of the list behind the last one.
	next int
	// err is the first error, and offset where it is.
	err    api.Errno
	offset int
}

// NewReader returns a reader of tokens.
func NewReader(l []Token) *Reader {
	return &Reader{list: slices.Clone(l)}
}

// Peek returns the present token.
func (r *Reader) Peek() Token {
	if r == nil || r.err != api.OK || r.next == len(r.list) {
		return Token{}
	}
	return r.list[r.next]
}

// Next returns the present token and goes on to the one behind it.
func (r *Reader) Next() Token {
	t := r.Peek()
	// Where there is no token, Peek returns one of Kind End, too.
	if t.Kind != End {
		r.next++
	}
	return t
}

// Is reports whether the present token is this word or symbol.
func (r *Reader) Is(text string) bool {
	t := r.Peek()
	return (t.Kind == Word || t.Kind == Symbol) && t.Text == text
}

// Accept goes on, if the present token is this word or symbol, and reports whether it was.
func (r *Reader) Accept(text string) bool {
	if !r.Is(text) {
		return false
	}
	r.Next()
	return true
}

// Expect goes on, if the present token is this word or symbol; otherwise there is an error at its offset.
func (r *Reader) Expect(text string) {
	if !r.Accept(text) {
		r.Fail(api.ErrSyntax)
	}
}

// Name returns the word at the present token, if it is a name, and goes on; otherwise there is an error at its offset.
func (r *Reader) Name() string {
	t := r.Peek()
	switch {
	case t.Kind != Word || slices.Contains(names.Keywords(), t.Text):
		r.Fail(api.ErrSyntax)
	case !names.Valid(t.Text):
		r.Fail(api.ErrName)
	default:
		return r.Next().Text
	}
	return ""
}

// Number returns the number at the present token, if it is one from least to most, and goes on; otherwise there is an error at its offset.
func (r *Reader) Number(least, most int) int {
	t := r.Peek()
	switch {
	case t.Kind != Number:
		r.Fail(api.ErrSyntax)
	case t.N < least || t.N > most:
		r.Fail(api.ErrRange)
	default:
		return r.Next().N
	}
	return 0
}

// Fail keeps the first error, with the offset of the present token.
func (r *Reader) Fail(e api.Errno) {
	if r == nil || r.err != api.OK || e == api.OK {
		return
	}
	r.err, r.offset = e, r.here()
}

// Err returns the first error and its offset.
func (r *Reader) Err() (int, api.Errno) {
	if r == nil {
		return 0, api.ErrArg
	}
	return r.offset, r.err
}

// here returns the offset at which the reader stands; behind the list, that of the last token.
func (r *Reader) here() int {
	if len(r.list) == 0 {
		return 0
	}
	return r.list[min(r.next, len(r.list)-1)].At
}
