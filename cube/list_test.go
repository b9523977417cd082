package cube_test

import (
	"math/rand"
	"slices"
	"testing"

	"arbac/api"
	"arbac/bits"
	"arbac/cube"
)

// list returns random cubes, with repetitions now and then.
func list(r *rand.Rand, n int) []C {
	var l []C
	for range n {
		if len(l) > 0 && r.Intn(5) == 0 {
			l = append(l, l[r.Intn(len(l))])
		} else {
			l = append(l, random(r))
		}
	}
	return l
}

// split returns Split(c, l) without its limit, as the definition says.
func split(c C, l []C) []C {
	parts := slices.DeleteFunc([]C{c}, func(x C) bool { return x.Yes.Meets(x.No) })
	for _, b := range l {
		var next []C
		for _, x := range parts {
			next = append(next, minus(x, b)...)
		}
		parts = next
	}
	return parts
}

// P14.3
func TestSplit(t *testing.T) {
	r := rand.New(rand.NewSource(19))
	several, none := 0, 0
	for range 500 {
		c, l := random(r), list(r, r.Intn(5))
		before := slices.Clone(l)
		got, e := cube.Split(c, l)
		if want := split(c, l); e != api.OK || !same(got, want) {
			t.Fatalf("Split(%s, %v): %v, %v, not %v", c.Text(), texts(l...), texts(got...), e, texts(want...))
		}
		checkParts(t, got, []C{c}, l)
		if !same(l, before) {
			t.Fatal("Split has changed its argument")
		}
		switch len(got) {
		case 0:
			none++
		case 1:
		default:
			several++
		}
	}
	if several < 100 || none < 50 {
		t.Errorf("only %d lists have several cubes, and %d none", several, none)
	}
}

// P14.3: no list, the full cube, and those that no set satisfies.
func TestSplitEdges(t *testing.T) {
	for _, c := range []struct {
		c    C
		l    []C
		want []C
	}{
		{C{}, nil, []C{{}}}, {yes(1), nil, []C{yes(1)}}, {both(1), nil, nil}, {both(1), []C{both(1)}, nil}, {yes(1), []C{both(1), both(2)}, []C{yes(1)}},
		{yes(1), []C{{}}, nil}, {yes(1), []C{{}, yes(2), {}}, nil}, {C{}, []C{yes(1), no(1)}, nil}, {C{}, []C{yes(1), yes(1)}, []C{no(1)}},
		// The parts of a cube stay in its place.
		{C{}, []C{yes(1, 2), yes(3)}, []C{no(1, 3), and(yes(1), no(2, 3))}},
		{C{}, []C{yes(1, 2), yes(3, 4)}, []C{no(1, 3), and(no(1, 4), yes(3)), and(yes(1), no(2, 3)), and(yes(1, 3), no(2, 4))}},
	} {
		if got, e := cube.Split(c.c, c.l); e != api.OK || !same(got, c.want) {
			t.Errorf("Split(%s, %v): %v, %v, not %v", c.c.Text(), texts(c.l...), texts(got...), e, texts(c.want...))
		}
	}
}

// P14.3: 2000 cubes behind each element are no error, 2001 behind some element are, however few are left in the end.
func TestSplitLimit(t *testing.T) {
	at, above := C{Yes: bits.Below(2000)}, C{No: bits.Below(2001)}
	if l, e := cube.Split(C{}, []C{at}); e != api.OK || len(l) != 2000 || !equal(l[0], no(0)) || !equal(l[1999], C{Yes: bits.Below(1999), No: bits.Of(1999)}) {
		t.Errorf("Split into 2000: %d, %v", len(l), e)
	}
	if l, e := cube.Split(C{}, []C{at, yes(4000), no(4000)}); e != api.OK || len(l) != 0 {
		t.Errorf("Split of nothing: %d, %v", len(l), e)
	}
	for _, l := range [][]C{{above}, {above, {}}, {at, yes(4000, 4001), {}}, {at, and(no(0), yes(4000, 4001))}, {C{Yes: bits.Below(4096)}}} {
		if parts, e := cube.Split(C{}, l); e != api.ErrLimit || len(parts) != 0 {
			t.Errorf("Split into more than 2000: %d, %v", len(parts), e)
		}
	}
	if parts, e := cube.Split(both(1), []C{above}); e != api.OK || len(parts) != 0 {
		t.Errorf("Split of an empty cube: %d, %v", len(parts), e)
	}
	// Among the sets with 0 there is one cube less.
	if parts, e := cube.Split(yes(0), []C{{Yes: bits.Below(2001)}}); e != api.OK || len(parts) != 2000 {
		t.Errorf("Split of 0: %d, %v", len(parts), e)
	}
}

// P14.3
func TestCovered(t *testing.T) {
	r := rand.New(rand.NewSource(20))
	covered := 0
	for range 2000 {
		c, l := random(r), list(r, r.Intn(9))
		if r.Intn(2) == 0 { // what covers c, but for a cube now and then
			l = append(l, minus(c, random(r))...)
			l = append(l, split(c, l)...)
			r.Shuffle(len(l), func(i, j int) { l[i], l[j] = l[j], l[i] })
			l = l[:len(l)-min(len(l), r.Intn(2))]
		}
		before := slices.Clone(l)
		in, by := sat(c), sat(l...)
		want := true
		for i := range world {
			want = want && (!in[i] || by[i])
		}
		if cube.Covered(c, l) != want {
			t.Fatalf("Covered(%s, %v) is %v", c.Text(), texts(l...), !want)
		}
		if !same(l, before) {
			t.Fatal("Covered has changed its argument")
		}
		if want {
			covered++
		}
	}
	if covered < 500 || covered > 1500 {
		t.Errorf("%d cubes are covered", covered)
	}
}

// P14.3: no list, the full cube, and those that no set satisfies.
func TestCoveredEdges(t *testing.T) {
	for _, c := range []struct {
		c    C
		l    []C
		want bool
	}{
		{C{}, nil, false}, {yes(1), nil, false}, {both(1), nil, true}, {both(1), []C{both(2)}, true}, {C{}, []C{both(1)}, false}, {yes(1), []C{both(1)}, false},
		{C{}, []C{{}}, true}, {C{}, []C{both(1), {}}, true}, {yes(1), []C{yes(1)}, true}, {yes(1), []C{no(1)}, false}, {C{}, []C{yes(1), no(1)}, true},
		{C{}, []C{yes(1), no(2)}, false}, {yes(2), []C{yes(1), no(1, 2)}, false}, {yes(2), []C{yes(1), and(no(1), yes(2))}, true},
		{C{}, []C{yes(1, 2), and(yes(1), no(2)), and(no(1), yes(2)), no(1, 2)}, true}, {C{}, []C{yes(1, 2), and(yes(1), no(2)), and(no(1), yes(2))}, false},
		{C{}, []C{yes(0), and(no(0), yes(4095)), no(0, 4095)}, true}, {C{}, []C{yes(0), no(4095), and(no(0), yes(4095))}, true},
	} {
		if cube.Covered(c.c, c.l) != c.want {
			t.Errorf("Covered(%s, %v) is %v", c.c.Text(), texts(c.l...), !c.want)
		}
	}
}

// nests returns cubes that cover everything, as pigeons do not fit into fewer nests: role number i * nests + j says that pigeon i sits in nest j.
func nests(pigeons int) []C {
	nests := pigeons - 1
	var l []C
	for i := range pigeons {
		l = append(l, C{No: bits.Below((i + 1) * nests).Minus(bits.Below(i * nests))})
	}
	for j := range nests {
		for i := range pigeons {
			for k := range i {
				l = append(l, yes(i*nests+j, k*nests+j))
			}
		}
	}
	return l
}

// P14.3: Covered has no limit, where Split has one.
func TestCoveredHasNoLimit(t *testing.T) {
	l := nests(7)
	if _, e := cube.Split(C{}, l); e != api.ErrLimit {
		t.Fatalf("Split: %v", e)
	}
	if !cube.Covered(C{}, l) {
		t.Error("Covered by all cubes is false")
	}
	for i := range l {
		if cube.Covered(C{}, slices.Delete(slices.Clone(l), i, i+1)) {
			t.Errorf("Covered without (%s) is true", l[i].Text())
		}
	}
	l = nil
	for i := range 1000 {
		l = append(l, yes(4*i, 4*i+1), no(4*i, 4*i+1))
	}
	if cube.Covered(C{}, l) || !cube.Covered(C{Yes: bits.Of(0), No: bits.Of(1)}, append(l, no(1))) {
		t.Error("Covered of many pairs")
	}
	l = []C{no(0), yes(400)}
	for i := range 400 {
		l = append(l, and(yes(i), no(i+1)))
	}
	if !cube.Covered(C{}, l) || cube.Covered(C{}, l[1:]) || cube.Covered(C{}, l[:len(l)-1]) {
		t.Error("Covered of a chain")
	}
}

// P14.3: lists over all roles, and what Split leaves of everything.
func TestCoveredByMany(t *testing.T) {
	r := rand.New(rand.NewSource(21))
	tested := 0
	for range 60 {
		var l []C
		for range 2 + r.Intn(6) {
			var x []lit
			for range 1 + r.Intn(5) {
				x = append(x, lit{1 + r.Intn(63), r.Intn(2) == 0})
			}
			l = append(l, of(x...))
		}
		rest, e := cube.Split(C{}, l)
		if e != api.OK || len(rest) == 0 {
			continue
		}
		tested++
		l = append(l, rest...)
		r.Shuffle(len(l), func(i, j int) { l[i], l[j] = l[j], l[i] })
		if !cube.Covered(C{}, l) {
			t.Fatalf("Covered of %d cubes is false", len(l))
		}
		i := slices.IndexFunc(l, func(c C) bool { return equal(c, rest[len(rest)/2]) })
		if l = slices.Delete(l, i, i+1); cube.Covered(C{}, l) || cube.Covered(rest[len(rest)/2], l) {
			t.Fatalf("Covered of %d cubes but one is true", len(l))
		}
	}
	if tested < 30 {
		t.Errorf("only %d lists are tested", tested)
	}
}

// simple returns Simple(l), as the definition says.
func simple(l []C) []C {
	var out []C
	for _, c := range l {
		larger := func(b C) bool { return !equal(b, c) && cube.Within(c, b) }
		if !cube.Empty(c) && !slices.ContainsFunc(l, larger) && !slices.ContainsFunc(out, func(b C) bool { return equal(b, c) }) {
			out = append(out, c)
		}
	}
	slices.SortFunc(out, cube.Compare)
	return out
}

// P14.4: Simple and Mentioned.
func TestSimple(t *testing.T) {
	r := rand.New(rand.NewSource(22))
	less := 0
	for range 1000 {
		l := list(r, r.Intn(12))
		if len(l) > 1 {
			l = append(l, and(l[0], l[1]))
		}
		before := slices.Clone(l)
		got, want := cube.Simple(l), simple(l)
		if !same(got, want) {
			t.Fatalf("Simple(%v): %v, not %v", texts(l...), texts(got...), texts(want...))
		}
		if !slices.Equal(sat(got...), sat(l...)) || !same(cube.Simple(got), got) {
			t.Fatalf("Simple(%v): %v", texts(l...), texts(got...))
		}
		if len(got) > 2 && len(got) < len(l) {
			less++
		}
		var all bits.Set
		for _, c := range l {
			all = all.Or(c.Yes).Or(c.No)
		}
		if !cube.Mentioned(l).Equal(all) {
			t.Fatalf("Mentioned(%v): %s", texts(l...), cube.Mentioned(l).Text())
		}
		clear(got)
		if !same(l, before) {
			t.Fatal("Simple has changed its argument, or shares memory with it")
		}
	}
	if less < 200 {
		t.Errorf("only %d lists are made shorter", less)
	}
}

// P14.4
func TestSimpleEdges(t *testing.T) {
	for _, c := range []struct{ l, want []C }{
		{nil, nil}, {[]C{}, nil}, {[]C{both(1)}, nil}, {[]C{both(1), both(1), both(2)}, nil}, {[]C{{}}, []C{{}}}, {[]C{{}, {}}, []C{{}}},
		{[]C{yes(0), {}, no(0)}, []C{{}}}, {[]C{both(1), {}}, []C{{}}}, {[]C{yes(1), both(1)}, []C{yes(1)}}, {[]C{yes(1), no(1)}, []C{no(1), yes(1)}},
		{[]C{yes(2), yes(1), yes(2)}, []C{yes(1), yes(2)}}, {[]C{yes(0, 1), yes(1), yes(0)}, []C{yes(0), yes(1)}}, {[]C{yes(0, 4095), yes(4095)}, []C{yes(4095)}},
		{[]C{and(yes(1), no(2)), and(yes(1, 3), no(2)), and(yes(1), no(2, 3)), yes(1, 2)}, []C{and(yes(1), no(2)), yes(1, 2)}},
		// The example of the chapter.
		{[]C{yes(1, 2), yes(1), both(2), yes(1)}, []C{yes(1)}},
	} {
		if got := cube.Simple(c.l); !same(got, c.want) {
			t.Errorf("Simple(%v): %v, not %v", texts(c.l...), texts(got...), texts(c.want...))
		}
	}
	for _, c := range []struct {
		l    []C
		want bits.Set
	}{{nil, bits.Set{}}, {[]C{{}}, bits.Set{}}, {[]C{both(3)}, bits.Of(3)}, {[]C{yes(1, 2), no(2, 4095), yes(0)}, bits.Of(0, 1, 2, 4095)}} {
		if got := cube.Mentioned(c.l); !got.Equal(c.want) {
			t.Errorf("Mentioned(%v): %s", texts(c.l...), got.Text())
		}
	}
}

// P14.4: many cubes, of which the ones with two roles are left.
func TestSimpleOfMany(t *testing.T) {
	var l, want []C
	for i := 1; i < 64; i++ {
		for j := 1; j < i; j++ {
			for k := 1; k < j; k += 5 {
				l = append(l, yes(i, j, k))
			}
			l = append(l, yes(i, j))
			want = append(want, yes(i, j))
		}
	}
	slices.SortFunc(want, cube.Compare)
	if got := cube.Simple(l); !same(got, want) {
		t.Errorf("Simple of %d cubes has %d", len(l), len(got))
	}
}

// P14.5
func TestCount(t *testing.T) {
	r := rand.New(rand.NewSource(23))
	for range 1000 {
		l := list(r, r.Intn(7))
		var over bits.Set
		for _, i := range append([]int{7, 4094}, members...) {
			if r.Intn(3) > 0 {
				over = over.With(i)
			}
		}
		want := 0
		for _, s := range subsets(over.List()) {
			if satisfies(s, l...) {
				want++
			}
		}
		if n, e := cube.Count(l, over); n != want || e != api.OK {
			t.Fatalf("Count(%v, %s): %d, %v, not %d", texts(l...), over.Text(), n, e, want)
		}
	}
}

// P14.5: 16 roles at most, wherever they are.
func TestCountEdges(t *testing.T) {
	high := bits.Below(4096).Minus(bits.Below(4080))
	for _, c := range []struct {
		l    []C
		over bits.Set
		want int
	}{
		{nil, bits.Set{}, 0}, {[]C{{}}, bits.Set{}, 1}, {[]C{both(1)}, bits.Set{}, 0}, {[]C{yes(1)}, bits.Set{}, 0}, {[]C{no(1)}, bits.Set{}, 1},
		{nil, bits.Below(16), 0}, {[]C{{}}, bits.Below(16), 65536}, {[]C{{}}, high, 65536}, {[]C{yes(4095)}, high, 32768}, {[]C{yes(4079)}, high, 0},
		{[]C{no(4079)}, high, 65536}, {[]C{{Yes: bits.Below(16)}}, bits.Below(16), 1}, {[]C{{No: bits.Below(4096)}}, bits.Below(16), 1}, {[]C{{Yes: bits.Below(17)}}, bits.Below(16), 0},
		{[]C{yes(1), yes(1)}, bits.Of(1, 2), 2}, {[]C{both(1), yes(2)}, bits.Of(1, 2), 2}, {[]C{yes(1), no(1)}, bits.Of(1, 2), 4},
		// The example of the chapter.
		{[]C{yes(1), no(2)}, bits.Of(1, 2, 3), 6},
	} {
		if n, e := cube.Count(c.l, c.over); n != c.want || e != api.OK {
			t.Errorf("Count(%v, %s): %d, %v, not %d", texts(c.l...), c.over.Text(), n, e, c.want)
		}
	}
	for _, over := range []bits.Set{bits.Below(17), bits.Below(4096), high.With(0)} {
		for _, l := range [][]C{nil, {{}}, {both(1)}} {
			if n, e := cube.Count(l, over); n != 0 || e != api.ErrLimit {
				t.Errorf("Count(%v) over %d roles: %d, %v", texts(l...), over.Len(), n, e)
			}
		}
	}
}
