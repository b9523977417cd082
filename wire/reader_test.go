package wire_test

import (
	"bytes"
	"math"
	"testing"

	"arbac/api"
	"arbac/bits"
	"arbac/wire"
)

// fails checks that a reading call fails with an error, takes nothing, and returns the zero value (as zero tells).
func fails(t *testing.T, p []byte, want api.Errno, zero func(r *wire.Reader) bool) {
	t.Helper()
	r := wire.NewReader(p)
	if !zero(r) || r.Err() != want || r.Left() != len(p) {
		t.Errorf("%v: error %v, not %v; %d of %d left; zero value %v", p, r.Err(), want, r.Left(), len(p), zero(r))
	}
	if r.End() != want {
		t.Errorf("%v: End %v, not %v", p, r.End(), want)
	}
}

// reading has all reading methods with a limit; each call reports whether the result is the zero value.
var reading = []struct {
	name string
	call func(r *wire.Reader, most int) bool
}{
	{"Uint", func(r *wire.Reader, most int) bool { return r.Uint(uint64(most)) == 0 }},
	{"Number", func(r *wire.Reader, most int) bool { return r.Number(most) == 0 }},
	{"Int", func(r *wire.Reader, most int) bool { return r.Int(math.MinInt64, int64(most)) == 0 }},
	{"String", func(r *wire.Reader, most int) bool { return r.String(most) == "" }},
	{"Bytes", func(r *wire.Reader, most int) bool { return len(r.Bytes(most)) == 0 }},
	{"Flag", func(r *wire.Reader, most int) bool { return !r.Flag() }},
	{"Raw", func(r *wire.Reader, most int) bool { return len(r.Raw(most)) == 0 }},
	{"Count", func(r *wire.Reader, most int) bool { return r.Count(most) == 0 }},
	{"Set", func(r *wire.Reader, most int) bool { return r.Set(most).Empty() }},
}

// P2.2: bytes that do not begin with a number.
func TestMalformedNumbers(t *testing.T) {
	for _, p := range [][]byte{
		nil,
		{129}, {255, 255}, {129, 255, 255, 255, 255, 255, 255, 255, 255}, // they end within it
		{128}, {128, 0}, {128, 5}, {128, 129, 0}, // the first group of several is 0
		{130, 128, 128, 128, 128, 128, 128, 128, 128, 0}, // 2^64
		{255, 255, 255, 255, 255, 255, 255, 255, 255, 127},
		{129, 128, 128, 128, 128, 128, 128, 128, 128, 128, 0}, // 2^70
		bytes.Repeat([]byte{255}, 1000),
	} {
		for _, m := range reading {
			if m.name != "Raw" && m.name != "Flag" {
				fails(t, p, api.ErrForm, func(r *wire.Reader) bool { return m.call(r, 4095) })
			}
		}
		fails(t, p, api.ErrForm, func(r *wire.Reader) bool { return r.Uint(math.MaxUint64) == 0 })
	}
}

// P2.2: negative limits, and low above high, come before every other error.
func TestInvalidArguments(t *testing.T) {
	for _, p := range [][]byte{nil, {0}, {5}, {128}, {1, 'a'}} {
		for _, n := range []int{-1, math.MinInt} {
			for _, m := range reading {
				if m.name != "Uint" && m.name != "Flag" && m.name != "Int" && m.name != "Set" {
					fails(t, p, api.ErrArg, func(r *wire.Reader) bool { return m.call(r, n) })
				}
			}
		}
		fails(t, p, api.ErrArg, func(r *wire.Reader) bool { return r.Int(1, 0) == 0 })
		fails(t, p, api.ErrArg, func(r *wire.Reader) bool { return r.Int(math.MaxInt64, math.MinInt64) == 0 })
	}
}

// P2.2
func TestNumbersOutOfRange(t *testing.T) {
	fails(t, []byte{5}, api.ErrRange, func(r *wire.Reader) bool { return r.Number(4) == 0 })
	fails(t, []byte{1, 9}, api.ErrRange, func(r *wire.Reader) bool { return r.Number(0) == 0 })
	fails(t, []byte{129, 128, 128, 128, 128, 128, 128, 128, 128, 0}, api.ErrRange, func(r *wire.Reader) bool { return r.Number(math.MaxInt) == 0 })
	fails(t, []byte{5}, api.ErrRange, func(r *wire.Reader) bool { return r.Int(-2, 9) == 0 })
	fails(t, []byte{6}, api.ErrRange, func(r *wire.Reader) bool { return r.Int(-9, 2) == 0 })
	fails(t, []byte{0}, api.ErrRange, func(r *wire.Reader) bool { return r.Int(1, 9) == 0 })
}

// P2.2
func TestFlagAndRaw(t *testing.T) {
	for _, p := range [][]byte{nil, {2}, {255, 1}, {129, 0}} {
		fails(t, p, api.ErrForm, func(r *wire.Reader) bool { return !r.Flag() })
	}
	fails(t, nil, api.ErrForm, func(r *wire.Reader) bool { return len(r.Raw(1)) == 0 })
	fails(t, []byte{1, 2}, api.ErrForm, func(r *wire.Reader) bool { return len(r.Raw(3)) == 0 })
	fails(t, []byte{1, 2}, api.ErrForm, func(r *wire.Reader) bool { return len(r.Raw(math.MaxInt)) == 0 })
	r := wire.NewReader([]byte{1, 0, 9, 8})
	if !r.Flag() || r.Flag() || len(r.Raw(0)) != 0 || r.Left() != 2 || !bytes.Equal(r.Raw(2), []byte{9, 8}) || len(r.Raw(0)) != 0 || r.End() != api.OK {
		t.Error("Flag and Raw", r.Err(), r.Left())
	}
}

// P2.2: a length above the limit is told before missing bytes; neither takes the length.
func TestLengths(t *testing.T) {
	pieces := []func(r *wire.Reader, most int) bool{
		func(r *wire.Reader, most int) bool { return r.String(most) == "" },
		func(r *wire.Reader, most int) bool { return len(r.Bytes(most)) == 0 },
	}
	huge := []byte{129, 255, 255, 255, 255, 255, 255, 255, 255, 127}
	for _, call := range pieces {
		fails(t, []byte{3, 'a', 'b'}, api.ErrLimit, func(r *wire.Reader) bool { return call(r, 2) })
		fails(t, []byte{3, 'a', 'b'}, api.ErrForm, func(r *wire.Reader) bool { return call(r, 3) })
		fails(t, []byte{3, 'a', 'b', 'c'}, api.ErrLimit, func(r *wire.Reader) bool { return call(r, 2) })
		fails(t, []byte{1, 'a'}, api.ErrLimit, func(r *wire.Reader) bool { return call(r, 0) })
		fails(t, []byte{1}, api.ErrForm, func(r *wire.Reader) bool { return call(r, 1) })
		fails(t, huge, api.ErrLimit, func(r *wire.Reader) bool { return call(r, math.MaxInt) })
		fails(t, huge[1:], api.ErrForm, func(r *wire.Reader) bool { return call(r, math.MaxInt) })
	}
	fails(t, []byte{3, 'a', 'b'}, api.ErrLimit, func(r *wire.Reader) bool { return r.Count(2) == 0 })
	fails(t, huge, api.ErrLimit, func(r *wire.Reader) bool { return r.Count(math.MaxInt) == 0 })
	r := wire.NewReader([]byte{3, 2, 'a', 'b', 0, 1, 'c', 0})
	if r.Count(3) != 3 || r.String(2) != "ab" || r.String(0) != "" || !bytes.Equal(r.Bytes(9), []byte("c")) || len(r.Bytes(0)) != 0 || r.End() != api.OK {
		t.Error("Count, String, Bytes", r.Err(), r.Left())
	}
}

// P2.2
func TestSets(t *testing.T) {
	full := append([]byte{132, 0}, bytes.Repeat([]byte{255}, 512)...)
	for _, x := range []struct {
		p    []byte
		most int
		want api.Errno
	}{
		{append([]byte{132, 1}, bytes.Repeat([]byte{255}, 513)...), 4095, api.ErrLimit},
		{[]byte{132, 1}, 4095, api.ErrLimit},
		{[]byte{132, 0, 1}, 4095, api.ErrForm},
		{[]byte{2, 2}, 99, api.ErrForm},
		{[]byte{1, 0}, 99, api.ErrForm},
		{[]byte{2, 2, 0}, 99, api.ErrForm},
		{[]byte{2, 2, 0}, -1, api.ErrForm},
		{[]byte{2, 2, 2}, 8, api.ErrRange},
		{[]byte{1, 1}, -1, api.ErrRange},
		{[]byte{9, 0, 0, 0, 0, 0, 0, 0, 0, 1}, 63, api.ErrRange},
		{full, 4094, api.ErrRange},
	} {
		fails(t, x.p, x.want, func(r *wire.Reader) bool { return r.Set(x.most).Empty() })
	}
	for _, x := range []struct {
		p    []byte
		most int
		want bits.Set
	}{
		{[]byte{0}, 0, bits.Set{}},
		{[]byte{0}, -1, bits.Set{}},
		{[]byte{1, 1}, 0, bits.Of(0)},
		{[]byte{2, 2, 2}, 9, bits.Of(1, 9)},
		{full, 4095, bits.Below(4096)},
		{full, math.MaxInt, bits.Below(4096)},
	} {
		r := wire.NewReader(x.p)
		if s := r.Set(x.most); !s.Equal(x.want) || r.End() != api.OK {
			t.Errorf("Set(%d) of %v: %s, %v", x.most, x.p, s.Text(), r.End())
		}
	}
}

// P2.2: the first error stays, and with it nothing is taken.
func TestStickyError(t *testing.T) {
	r := wire.NewReader([]byte{1, 5, 1, 1, 1})
	if !r.Flag() || r.Number(4) != 0 || r.Err() != api.ErrRange {
		t.Fatal("the first error", r.Err())
	}
	for _, m := range reading {
		for _, most := range []int{9, 1, 0, -1} {
			if !m.call(r, most) || r.Err() != api.ErrRange || r.Left() != 4 {
				t.Errorf("%s(%d) behind an error: %v, %d left", m.name, most, r.Err(), r.Left())
			}
		}
	}
	r.Int(1, 0)
	r.Fail(api.ErrState)
	if r.Err() != api.ErrRange || r.End() != api.ErrRange {
		t.Error("the error changed", r.Err())
	}
}

// P2.3
func TestFailAndEnd(t *testing.T) {
	r := wire.NewReader([]byte{7, 8})
	r.Fail(api.OK)
	if r.Err() != api.OK || r.End() != api.ErrForm || r.Err() != api.OK || r.Left() != 2 {
		t.Error("without an error", r.Err(), r.End())
	}
	if r.Number(7) != 7 || r.Left() != 1 || r.End() != api.ErrForm || r.Number(8) != 8 || r.Left() != 0 || r.End() != api.OK {
		t.Error("End does not set the error", r.Err(), r.Left())
	}
	r.Fail(api.ErrState)
	r.Fail(api.ErrArg)
	r.Fail(api.OK)
	if r.Err() != api.ErrState || r.End() != api.ErrState {
		t.Error("Fail", r.Err(), r.End())
	}
	r = wire.NewReader([]byte{7})
	r.Fail(api.ErrState)
	if r.Number(9) != 0 || r.Left() != 1 || r.End() != api.ErrState {
		t.Error("reading behind Fail", r.End(), r.Left())
	}
	if r := wire.NewReader(nil); r.Left() != 0 || r.Err() != api.OK || r.End() != api.OK {
		t.Error("a reader of no bytes", r.End())
	}
}

func TestNilReader(t *testing.T) {
	var r *wire.Reader
	r.Fail(api.ErrState)
	for _, m := range reading {
		for _, most := range []int{9, 0, -1} {
			if !m.call(r, most) {
				t.Errorf("%s(%d)", m.name, most)
			}
		}
	}
	if r.Left() != 0 || r.Err() != api.ErrArg || r.End() != api.ErrArg {
		t.Error(r.Left(), r.Err(), r.End())
	}
}

// A reader keeps nothing of its argument, and hands out nothing of itself.
func TestReaderCopies(t *testing.T) {
	p := []byte{2, 7, 8, 9, 6, 5}
	r := wire.NewReader(p)
	clear(p)
	a := r.Bytes(2)
	b := r.Raw(1)
	if !bytes.Equal(a, []byte{7, 8}) || !bytes.Equal(b, []byte{9}) {
		t.Error("the argument is kept", a, b)
	}
	_ = append(append(a, 0, 0, 0), append(b, 0, 0, 0)...)
	if r.Number(9) != 6 || r.Number(9) != 5 {
		t.Error("a result is a part of the reader")
	}
}
