package rule_test

import (
	"bytes"
	"math"
	"math/rand"
	"slices"
	"testing"

	"arbac/api"
	"arbac/bits"
	"arbac/days"
	"arbac/rule"
)

// number appends the encoding of a number below 2^21.
func number(p []byte, n int) []byte {
	if n >= 1<<14 {
		p = append(p, byte(128|n>>14))
	}
	if n >= 1<<7 {
		p = append(p, byte(128|n>>7&127))
	}
	return append(p, byte(n&127))
}

// encoded returns the bytes of rules, as the chapter describes them.
func encoded(l ...R) []byte {
	p := number(nil, len(l))
	for _, r := range l {
		flag := byte(0)
		if r.Revoke {
			flag = 1
		}
		p = number(number(append(p, flag), r.Admin), r.Target)
		for _, part := range [][]byte{r.If.Yes.Bytes(), r.If.No.Bytes(), []byte(r.When.Text())} {
			p = append(number(p, len(part)), part...)
		}
		p = number(p, r.Longest)
	}
	return p
}

// widest returns a set of days with the longest text: spans of two days.
func widest(t *testing.T) days.Set {
	t.Helper()
	var l []days.Span
	for d := 1; d < api.MaxDay; d += 3 {
		l = append(l, days.Span{From: d, To: d + 1})
	}
	s, e := days.Of(l...)
	if e != api.OK || len(s.Text()) < 100000 {
		t.Fatalf("error %d, %d bytes", e, len(s.Text()))
	}
	return s
}

// P23.8
func TestBytes(t *testing.T) {
	r := rand.New(rand.NewSource(238))
	lists := [][]R{
		nil, {{}}, {{Admin: 63, Target: 63, If: C{Yes: bits.Of(0, 63), No: bits.Of(0, 63)}, When: days.All(), Longest: 30000}},
		{{Revoke: true, Admin: 1, If: cubed(t, "1 !1"), Longest: 5}, {}, {When: widest(t)}},
		slices.Repeat([]R{{Admin: 3, Target: 1, When: widest(t)}}, api.MaxRules),
	}
	for range 300 {
		var l []R
		for range r.Intn(6) {
			x := randomRule(t, r)
			x.Admin, x.Target, x.Longest = r.Intn(64), r.Intn(64), []int{0, 1, 127, 128, 16383, 16384, 30000}[r.Intn(7)]
			x.If = randomCube(r, r.Intn(3), 63)
			l = append(l, x)
		}
		lists = append(lists, l)
	}
	for _, l := range lists {
		want := encoded(l...)
		got := rule.Bytes(l)
		if !bytes.Equal(got, want) {
			t.Fatalf("Bytes(%v): %x, not %x", texts(l), got, want)
		}
		read, e := rule.Read(got)
		if e != api.OK || !slices.EqualFunc(read, l, rule.Equal) || !slices.EqualFunc(read, l, same) {
			t.Fatalf("Read of the bytes of %v: %v, error %d", texts(l), texts(read), e)
		}
		if !bytes.Equal(got, want) {
			t.Fatalf("Read has changed its argument")
		}
		clear(got)
		if !slices.EqualFunc(read, l, rule.Equal) || !bytes.Equal(rule.Bytes(read), want) {
			t.Fatalf("%v: a caller has changed the rules", texts(l))
		}
	}
	// By hand: the example of the chapter, and the revocation of role 2 by role 3 on all days.
	l := []R{{Admin: 3, Target: 2, If: cubed(t, "1 !2"), When: on(t, "3-7,10"), Longest: 300}, {Revoke: true, Admin: 3, Target: 2, When: days.All()}}
	p := []byte{2, 0, 3, 2, 1, 2, 1, 4, 6, '3', '-', '7', ',', '1', '0', 130, 44, 1, 3, 2, 0, 0, 3, 'a', 'l', 'l', 0}
	if got := rule.Bytes(l); !bytes.Equal(got, p) {
		t.Errorf("by hand: %v, not %v", got, p)
	}
}

// P23.8: rules without bytes.
func TestBytesOfNone(t *testing.T) {
	good := R{Admin: 3, Target: 1, When: days.All(), Longest: 5}
	for i, change := range []func(*R){
		func(x *R) { x.Admin = -1 }, func(x *R) { x.Admin = 64 }, func(x *R) { x.Admin = math.MaxInt },
		func(x *R) { x.Target = -1 }, func(x *R) { x.Target = 64 }, func(x *R) { x.Target = math.MinInt },
		func(x *R) { x.If.Yes = bits.Of(64) }, func(x *R) { x.If.No = bits.Of(1, 4095) },
		func(x *R) { x.Longest = -1 }, func(x *R) { x.Longest = 30001 }, func(x *R) { x.Longest = math.MaxInt },
		func(x *R) { x.Revoke, x.Longest = true, -1 },
	} {
		x := good
		change(&x)
		for _, l := range [][]R{{x}, {good, x}, {x, good}} {
			if p := rule.Bytes(l); len(p) != 0 {
				t.Errorf("fault %d: %x", i, p)
			}
		}
	}
	many := slices.Repeat([]R{good}, api.MaxRules+1)
	if p := rule.Bytes(many); len(p) != 0 {
		t.Errorf("too many rules: %d bytes", len(p))
	}
	if p := rule.Bytes(many[1:]); len(p) == 0 {
		t.Error("as many rules as there may be have no bytes")
	}
}

// P23.8: bytes of no rules.
func TestReadErrors(t *testing.T) {
	good := encoded(R{Admin: 3, Target: 2, If: cubed(t, "1 !2"), When: on(t, "3-7,10"), Longest: 300}, R{Revoke: true, Admin: 3, Target: 2, When: days.All()})
	texts := [][]byte{
		nil, {1}, {0, 0}, {128, 0}, {255, 255, 255, 127}, bytes.Repeat([]byte{255}, 20),
		append(slices.Clone(good), 0), append([]byte{0}, good...),
		encoded(slices.Repeat([]R{{}}, api.MaxRules+1)...),
		encoded(R{Admin: 64}), encoded(R{Target: 64}), encoded(R{Longest: 30001}),
		encoded(R{If: C{Yes: bits.Of(64)}}), encoded(R{If: C{No: bits.Of(4095)}}),
		// A flag that is none, numbers that are too long, and sets with a zero byte at the end.
		{1, 2, 3, 2, 0, 0, 3, 'a', 'l', 'l', 0},
		{1, 0, 128, 3, 2, 0, 0, 3, 'a', 'l', 'l', 0},
		{1, 0, 3, 128, 2, 0, 0, 3, 'a', 'l', 'l', 0},
		{1, 0, 3, 2, 0, 0, 3, 'a', 'l', 'l', 128, 0},
		{1, 0, 3, 2, 1, 0, 0, 3, 'a', 'l', 'l', 0},
		{1, 0, 3, 2, 0, 2, 1, 0, 3, 'a', 'l', 'l', 0},
		// Texts that no set of days has.
		{1, 0, 3, 2, 0, 0, 0, 0},
		{1, 0, 3, 2, 0, 0, 3, 'A', 'l', 'l', 0},
		{1, 0, 3, 2, 0, 0, 3, '7', '-', '3', 0},
		{1, 0, 3, 2, 0, 0, 3, '3', '-', '3', 0},
		{1, 0, 3, 2, 0, 0, 3, '3', ',', '4', 0},
		{1, 0, 3, 2, 0, 0, 4, '3', ',', ' ', '5', 0},
		{1, 0, 3, 2, 0, 0, 2, '0', '7', 0},
		{1, 0, 3, 2, 0, 0, 5, '3', '0', '0', '0', '1', 0},
		// Lengths above what is left, or below the text; more or fewer rules than there should be.
		{1, 0, 3, 2, 0, 0, 9, 'a', 'l', 'l', 0},
		{1, 0, 3, 2, 0, 0, 255, 255, 127, 'a', 'l', 'l', 0},
		{1, 0, 3, 2, 0, 0, 2, 'a', 'l', 'l', 0},
		{2, 0, 3, 2, 0, 0, 3, 'a', 'l', 'l', 0, 0, 3, 2, 0},
		{1, 0, 3, 2, 0, 0, 3, 'a', 'l', 'l', 0, 0, 3, 2, 0},
		{0, 0, 3, 2, 0, 0, 3, 'a', 'l', 'l', 0},
		{65, 0, 3, 2, 0, 0, 3, 'a', 'l', 'l', 0},
	}
	for n := range good {
		texts = append(texts, good[:n])
	}
	for _, p := range texts {
		before := bytes.Clone(p)
		if l, e := rule.Read(p); len(l) != 0 || e != api.ErrForm {
			t.Errorf("Read(%.60x): %d rules, error %d", p, len(l), e)
		}
		if !bytes.Equal(p, before) {
			t.Errorf("Read(%.60x) has changed its argument", before)
		}
	}
	if l, e := rule.Read(good); len(l) != 2 || e != api.OK {
		t.Errorf("Read: %d rules, error %d", len(l), e)
	}
	if l, e := rule.Read([]byte{0}); len(l) != 0 || e != api.OK {
		t.Errorf("Read of no rules: error %d", e)
	}
}

// P23.8: whatever is read has exactly these bytes.
func TestReadIsCanonical(t *testing.T) {
	r := rand.New(rand.NewSource(239))
	read := 0
	for range 20000 {
		p := encoded(R{Admin: 3, Target: 2, If: cubed(t, "1 !2"), When: on(t, "3-7,10"), Longest: 300}, R{Revoke: true, Admin: 3, Target: 2, When: days.All()})
		for range 1 + r.Intn(3) {
			p[r.Intn(len(p))] = []byte{0, 1, 2, 3, 4, 63, 64, 128, 129, '4', '8', '-', ',', byte(r.Intn(256))}[r.Intn(14)]
		}
		p = p[:len(p)-r.Intn(3)*r.Intn(2)]
		l, e := rule.Read(p)
		if e == api.OK {
			read++
		}
		if e == api.OK && (!bytes.Equal(rule.Bytes(l), p) || !bytes.Equal(encoded(l...), p)) || e != api.OK && (len(l) != 0 || e != api.ErrForm) {
			t.Fatalf("Read(%x): %v, error %d", p, texts(l), e)
		}
	}
	if read < 1000 {
		t.Errorf("only %d lists were read", read)
	}
}
