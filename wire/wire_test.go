package wire_test

import (
	"bytes"
	"math"
	"math/rand"
	"slices"
	"strings"
	"testing"

	"arbac/api"
	"arbac/bits"
	"arbac/wire"
)

// written returns the bytes that some calls write.
func written(write func(w *wire.Writer)) []byte {
	w := wire.NewWriter()
	write(w)
	return w.Out()
}

// numbers are numbers at the borders of their encodings' lengths, and their encodings.
var numbers = []struct {
	v uint64
	p []byte
}{
	{0, []byte{0}},
	{1, []byte{1}},
	{127, []byte{127}},
	{128, []byte{129, 0}},
	{300, []byte{130, 44}},
	{1<<14 - 1, []byte{255, 127}},
	{1 << 14, []byte{129, 128, 0}},
	{1<<21 - 1, []byte{255, 255, 127}},
	{1 << 21, []byte{129, 128, 128, 0}},
	{1<<56 - 1, []byte{255, 255, 255, 255, 255, 255, 255, 127}},
	{1 << 56, []byte{129, 128, 128, 128, 128, 128, 128, 128, 0}},
	{1<<63 - 1, []byte{255, 255, 255, 255, 255, 255, 255, 255, 127}},
	{1 << 63, []byte{129, 128, 128, 128, 128, 128, 128, 128, 128, 0}},
	{1<<64 - 1, []byte{129, 255, 255, 255, 255, 255, 255, 255, 255, 127}},
}

// P2.1, P2.5
func TestUint(t *testing.T) {
	for _, x := range numbers {
		if p := written(func(w *wire.Writer) { w.Uint(x.v) }); !bytes.Equal(p, x.p) {
			t.Errorf("Uint(%d): %v, not %v", x.v, p, x.p)
		}
		r := wire.NewReader(x.p)
		if v := r.Uint(x.v); v != x.v || r.End() != api.OK || r.Left() != 0 {
			t.Errorf("Uint of %v: %d, %v", x.p, v, r.End())
		}
		if x.v > 0 {
			fails(t, x.p, api.ErrRange, func(r *wire.Reader) bool { return r.Uint(x.v-1) == 0 })
		}
	}
}

// P2.1, P2.5: a number with a sign v is the number 2v, or -2v - 1.
func TestInt(t *testing.T) {
	for _, x := range []struct {
		v int64
		u uint64
	}{{0, 0}, {-1, 1}, {1, 2}, {-2, 3}, {-3, 5}, {63, 126}, {-64, 127}, {64, 128}, {-65, 129}, {math.MaxInt64, 1<<64 - 2}, {math.MinInt64, 1<<64 - 1}, {math.MinInt64 + 1, 1<<64 - 3}} {
		p := written(func(w *wire.Writer) { w.Int(x.v) })
		if !bytes.Equal(p, written(func(w *wire.Writer) { w.Uint(x.u) })) {
			t.Errorf("Int(%d): %v", x.v, p)
		}
		for _, limits := range [][2]int64{{x.v, x.v}, {math.MinInt64, math.MaxInt64}, {math.MinInt64, x.v}, {x.v, math.MaxInt64}} {
			r := wire.NewReader(p)
			if v := r.Int(limits[0], limits[1]); v != x.v || r.End() != api.OK {
				t.Errorf("Int%v of %v: %d, %v", limits, p, v, r.End())
			}
		}
		if x.v > math.MinInt64 {
			fails(t, p, api.ErrRange, func(r *wire.Reader) bool { return r.Int(math.MinInt64, x.v-1) == 0 })
		}
		if x.v < math.MaxInt64 {
			fails(t, p, api.ErrRange, func(r *wire.Reader) bool { return r.Int(x.v+1, math.MaxInt64) == 0 })
		}
	}
}

// P2.1
func TestWriter(t *testing.T) {
	for _, x := range []struct {
		what  string
		write func(w *wire.Writer)
		want  []byte
	}{
		{"nothing", func(w *wire.Writer) {}, nil},
		{"String", func(w *wire.Writer) { w.String("ab") }, []byte{2, 'a', 'b'}},
		{"empty String", func(w *wire.Writer) { w.String("") }, []byte{0}},
		{"String that is no text", func(w *wire.Writer) { w.String("\x00\xff") }, []byte{2, 0, 255}},
		{"long String", func(w *wire.Writer) { w.String(strings.Repeat("x", 200)) }, append([]byte{129, 72}, bytes.Repeat([]byte("x"), 200)...)},
		{"Bytes", func(w *wire.Writer) { w.Bytes([]byte{7, 8, 9}) }, []byte{3, 7, 8, 9}},
		{"no Bytes", func(w *wire.Writer) { w.Bytes(nil) }, []byte{0}},
		{"Flag", func(w *wire.Writer) { w.Flag(true); w.Flag(false) }, []byte{1, 0}},
		{"Raw", func(w *wire.Writer) { w.Raw([]byte{7, 8}); w.Raw(nil); w.Raw([]byte{9}) }, []byte{7, 8, 9}},
		{"Set", func(w *wire.Writer) { w.Set(bits.Of(1, 9)) }, []byte{2, 2, 2}},
		{"empty Set", func(w *wire.Writer) { w.Set(bits.Set{}) }, []byte{0}},
		{"all", func(w *wire.Writer) { w.Uint(300); w.Int(-3); w.String("ab"); w.Set(bits.Of(1, 9)) }, []byte{130, 44, 5, 2, 'a', 'b', 2, 2, 2}},
	} {
		if p := written(x.write); !bytes.Equal(p, x.want) {
			t.Errorf("%s: %v, not %v", x.what, p, x.want)
		}
	}
}

// P2.1: Out changes nothing, and its result is no part of the writer; arguments are not kept.
func TestOut(t *testing.T) {
	w := wire.NewWriter()
	p := []byte{7, 8}
	w.Raw(p)
	w.Bytes(p)
	clear(p)
	clear(w.Out())
	if got := append(w.Out(), 99); !bytes.Equal(got, []byte{7, 8, 2, 7, 8, 99}) {
		t.Errorf("Out: %v", got)
	}
	w.Uint(5)
	if got := w.Out(); !bytes.Equal(got, []byte{7, 8, 2, 7, 8, 5}) {
		t.Errorf("Out after a further number: %v", got)
	}
}

func TestNilWriter(t *testing.T) {
	var w *wire.Writer
	w.Uint(1)
	w.Int(-1)
	w.String("a")
	w.Bytes([]byte{1})
	w.Flag(true)
	w.Raw([]byte{1})
	w.Set(bits.Of(1))
	if p := w.Out(); len(p) != 0 {
		t.Errorf("Out: %v", p)
	}
}

// value is something that is written, and read with a limit that just permits it.
type value struct {
	write func(w *wire.Writer)
	same  func(r *wire.Reader) bool
}

func someValue(x *rand.Rand) value {
	n := x.Intn(300)
	p := make([]byte, n)
	x.Read(p)
	u := x.Uint64() >> x.Intn(64)
	i := int64(u) * int64(1-x.Intn(3))
	l := make([]int, x.Intn(20))
	for k := range l {
		l[k] = x.Intn(1 << (1 + x.Intn(12)))
	}
	s := bits.Of(l...)
	most, _ := s.Greatest()
	switch x.Intn(9) {
	case 0:
		return value{func(w *wire.Writer) { w.Uint(u) }, func(r *wire.Reader) bool { return r.Uint(u) == u }}
	case 1:
		return value{func(w *wire.Writer) { w.Uint(uint64(n)) }, func(r *wire.Reader) bool { return r.Number(n) == n }}
	case 2:
		return value{func(w *wire.Writer) { w.Int(i) }, func(r *wire.Reader) bool { return r.Int(i, i) == i }}
	case 3:
		return value{func(w *wire.Writer) { w.String(string(p)) }, func(r *wire.Reader) bool { return r.String(n) == string(p) }}
	case 4:
		return value{func(w *wire.Writer) { w.Bytes(p) }, func(r *wire.Reader) bool { return bytes.Equal(r.Bytes(n), p) }}
	case 5:
		return value{func(w *wire.Writer) { w.Flag(n%2 == 0) }, func(r *wire.Reader) bool { return r.Flag() == (n%2 == 0) }}
	case 6:
		return value{func(w *wire.Writer) { w.Raw(p) }, func(r *wire.Reader) bool { return bytes.Equal(r.Raw(n), p) }}
	case 7:
		return value{func(w *wire.Writer) { w.Uint(uint64(n)) }, func(r *wire.Reader) bool { return r.Count(n) == n }}
	}
	return value{func(w *wire.Writer) { w.Set(s) }, func(r *wire.Reader) bool { return r.Set(most).Equal(s) }}
}

// P2.5
func TestWhatIsWrittenIsReadBack(t *testing.T) {
	x := rand.New(rand.NewSource(2))
	for range 300 {
		var l []value
		w := wire.NewWriter()
		for range x.Intn(20) {
			v := someValue(x)
			l = append(l, v)
			v.write(w)
		}
		r := wire.NewReader(w.Out())
		for k, v := range l {
			if !v.same(r) || r.Err() != api.OK {
				t.Fatalf("value %d of %d is not read back: %v", k, len(l), r.Err())
			}
		}
		if r.Left() != 0 || r.End() != api.OK {
			t.Fatalf("%d bytes are left: %v", r.Left(), r.End())
		}
	}
}

// P2.4: whatever is read, writing it again gives the bytes that were taken.
func TestCanonical(t *testing.T) {
	again := []func(r *wire.Reader, w *wire.Writer){
		func(r *wire.Reader, w *wire.Writer) { w.Uint(r.Uint(math.MaxUint64)) },
		func(r *wire.Reader, w *wire.Writer) { w.Uint(uint64(r.Number(math.MaxInt))) },
		func(r *wire.Reader, w *wire.Writer) { w.Int(r.Int(math.MinInt64, math.MaxInt64)) },
		func(r *wire.Reader, w *wire.Writer) { w.String(r.String(math.MaxInt)) },
		func(r *wire.Reader, w *wire.Writer) { w.Bytes(r.Bytes(math.MaxInt)) },
		func(r *wire.Reader, w *wire.Writer) { w.Flag(r.Flag()) },
		func(r *wire.Reader, w *wire.Writer) { w.Raw(r.Raw(2)) },
		func(r *wire.Reader, w *wire.Writer) { w.Uint(uint64(r.Count(math.MaxInt))) },
		func(r *wire.Reader, w *wire.Writer) { w.Set(r.Set(math.MaxInt)) },
	}
	interesting := []byte{0, 1, 2, 3, 9, 127, 128, 129, 130, 255}
	x := rand.New(rand.NewSource(3))
	taken := make([]int, len(again))
	for range 30000 {
		p := make([]byte, x.Intn(14))
		for i := range p {
			p[i] = interesting[x.Intn(len(interesting))]
		}
		for k, f := range again {
			r, w := wire.NewReader(p), wire.NewWriter()
			f(r, w)
			n := len(p) - r.Left()
			if r.Err() != api.OK && n != 0 || r.Err() == api.OK && !bytes.Equal(w.Out(), p[:n]) {
				t.Fatalf("method %d of %v: %v, %d taken, written again %v", k, p, r.Err(), n, w.Out())
			}
			if r.Err() == api.OK {
				taken[k]++
			}
		}
	}
	if slices.Contains(taken, 0) {
		t.Errorf("some method never takes anything: %v", taken)
	}
}
