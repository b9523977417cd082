package token_test

import (
	"math"
	"math/rand"
	"slices"
	"testing"

	"arbac/api"
	"arbac/names"
	"arbac/token"
)

// model is a reader by definition.
type model struct {
	list []T
	pos  int
	err  api.Errno
	off  int
}

// fail keeps an error.
func (m *model) fail(e api.Errno) {
	if m.err != api.OK || e == api.OK {
		return
	}
	m.err = e
	switch {
	case m.pos < len(m.list):
		m.off = m.list[m.pos].At
	case len(m.list) > 0:
		m.off = m.list[len(m.list)-1].At
	}
}

// peek is Peek, next is Next.
func (m *model) peek() T {
	if m.err != api.OK || m.pos >= len(m.list) {
		return T{}
	}
	return m.list[m.pos]
}

func (m *model) next() T {
	t := m.peek()
	if m.err == api.OK && m.pos < len(m.list) && t.Kind != token.End {
		m.pos++
	}
	return t
}

// is is Is.
func (m *model) is(s string) bool {
	return m.err == api.OK && m.pos < len(m.list) && (m.peek().Kind == token.Word || m.peek().Kind == token.Symbol) && m.peek().Text == s
}

// name is Name, number is Number.
func (m *model) name() string {
	t := m.peek()
	switch {
	case m.err != api.OK:
		return ""
	case t.Kind != token.Word || slices.Contains(names.Keywords(), t.Text):
		m.fail(api.ErrSyntax)
		return ""
	case !names.Valid(t.Text):
		m.fail(api.ErrName)
		return ""
	}
	return m.next().Text
}

func (m *model) number(least, most int) int {
	t := m.peek()
	switch {
	case m.err != api.OK:
		return 0
	case t.Kind != token.Number:
		m.fail(api.ErrSyntax)
		return 0
	case t.N < least || t.N > most:
		m.fail(api.ErrRange)
		return 0
	}
	return m.next().N
}

// lists are the lists of tokens of random histories: those that Scan returns, and others.
func lists(r *rand.Rand) []T {
	if r.Intn(2) == 0 {
		for {
			if l, _, e := token.Scan(random(r, r.Intn(8), len(pieces)-5)); e == api.OK {
				return l
			}
		}
	}
	texts := []string{"", "a", "by", "abcdefghijklm", "A", "->", "(", "7"}
	var l []T
	for range r.Intn(6) {
		l = append(l, of(token.Kind(r.Intn(6)), texts[r.Intn(len(texts))], r.Intn(4)-1, r.Intn(50)))
	}
	if r.Intn(3) > 0 {
		// Most of the tokens of Kind End are at the end, that histories are not too short.
		l = slices.DeleteFunc(l, func(t T) bool { return t.Kind == token.End })
	}
	return l
}

// step makes one random call of both and returns whether they answer the same.
func step(r *rand.Rand, a *token.Reader, m *model) bool {
	texts := []string{"", "a", "by", "not", "->", "(", ")", ",", "7", m.peek().Text, m.peek().Text}
	text := texts[r.Intn(len(texts))]
	switch r.Intn(14) {
	case 0, 1:
		return a.Peek() == m.peek()
	case 2, 3:
		return a.Next() == m.next()
	case 4, 5:
		return a.Is(text) == m.is(text)
	case 6, 7, 8:
		want := m.is(text)
		if want {
			m.next()
		}
		return a.Accept(text) == want
	case 9:
		if m.is(text) {
			m.next()
		} else {
			m.fail(api.ErrSyntax)
		}
		a.Expect(text)
	case 10, 11:
		return a.Name() == m.name()
	case 12:
		least, most := r.Intn(4)-1, r.Intn(1000000)-1
		return a.Number(least, most) == m.number(least, most)
	case 13:
		if r.Intn(3) > 0 {
			a.Fail(api.OK)
			return true
		}
		e := api.Errno(r.Intn(20) - 1)
		a.Fail(e)
		m.fail(e)
	}
	return true
}

// P15.3, P15.4, P15.5: random histories.
func TestReaderRandom(t *testing.T) {
	r := rand.New(rand.NewSource(1503))
	for range 30000 {
		l := lists(r)
		kept := slices.Clone(l)
		a, m := token.NewReader(l), &model{list: kept}
		clear(l)
		for i := range 14 {
			if !step(r, a, m) {
				t.Fatalf("another answer at step %d of a reader of %v", i, kept)
			}
			if at, e := a.Err(); at != m.off || e != m.err {
				t.Fatalf("error %d %d, not %d %d, after step %d of a reader of %v", at, e, m.off, m.err, i, kept)
			}
			if a.Peek() != m.peek() {
				t.Fatalf("at %v, not at %v, after step %d of a reader of %v", a.Peek(), m.peek(), i, kept)
			}
		}
	}
}

// reader returns a reader of a source.
func reader(t *testing.T, s string) *token.Reader {
	t.Helper()
	l, _, e := token.Scan(s)
	if e != api.OK {
		t.Fatalf("Scan(%q): %d", s, e)
	}
	return token.NewReader(l)
}

// fails checks that a reader has this error.
func fails(t *testing.T, r *token.Reader, at int, e api.Errno) {
	t.Helper()
	if a, b := r.Err(); a != at || b != e {
		t.Errorf("error %d %d, not %d %d", a, b, at, e)
	}
}

// P15.3, P15.4: the second example of the chapter.
func TestReaderExample(t *testing.T) {
	r := reader(t, "r1 on 3")
	if r.Accept("not") || r.Name() != "r1" {
		t.Error("not, or no name")
	}
	fails(t, r, 0, api.OK)
	r.Expect("by")
	fails(t, r, 3, api.ErrSyntax)
}

// P15.3: moving on, up to the end and no further.
func TestReaderMoves(t *testing.T) {
	r := reader(t, "assign r1 -> 30")
	if !r.Is("assign") || r.Is("assig") || r.Is("") || r.Accept("r1") || r.Peek() != of(token.Word, "assign", 0, 0) {
		t.Error("not at assign")
	}
	r.Expect("assign")
	if r.Next() != of(token.Word, "r1", 0, 7) || !r.Is("->") || !r.Accept("->") {
		t.Error("not behind r1")
	}
	if r.Is("30") || r.Accept("30") || r.Peek() != of(token.Number, "30", 30, 13) {
		t.Error("a number is taken as a word")
	}
	fails(t, r, 0, api.OK)
	r.Next()
	for range 3 {
		if r.Next() != of(token.End, "", 0, 15) || r.Peek() != of(token.End, "", 0, 15) || r.Is("") || r.Accept("") {
			t.Error("not at the end")
		}
	}
	fails(t, r, 0, api.OK)
	r.Expect("")
	fails(t, r, 15, api.ErrSyntax)
}

// P15.3: a token of Kind End holds the reader wherever it stands.
func TestReaderEndInside(t *testing.T) {
	r := token.NewReader([]T{of(token.Word, "a", 0, 3), of(token.End, "x", 0, 5), of(token.Word, "b", 0, 9)})
	r.Next()
	for range 2 {
		if r.Next() != of(token.End, "x", 0, 5) || r.Is("x") || r.Accept("x") {
			t.Error("not held by the end")
		}
	}
	r.Fail(api.ErrCycle)
	fails(t, r, 5, api.ErrCycle)
}

// Behind the list there is the zero token, and errors have the offset of the last one.
func TestReaderBehind(t *testing.T) {
	r := token.NewReader([]T{of(token.Word, "a", 0, 3), of(token.Number, "7", 7, 5)})
	r.Next()
	if r.Number(7, 7) != 7 || r.Peek() != (T{}) || r.Next() != (T{}) || r.Is("") || r.Accept("") {
		t.Error("not behind the list")
	}
	fails(t, r, 0, api.OK)
	r.Expect("a")
	fails(t, r, 5, api.ErrSyntax)

	empty := []func(*token.Reader){
		func(r *token.Reader) { r.Expect("") }, func(r *token.Reader) { r.Name() }, func(r *token.Reader) { r.Number(0, 0) }, func(r *token.Reader) { r.Fail(api.ErrSyntax) },
	}
	for _, call := range empty {
		r := token.NewReader(nil)
		if r.Peek() != (T{}) || r.Next() != (T{}) {
			t.Error("an empty list has a token")
		}
		fails(t, r, 0, api.OK)
		call(r)
		fails(t, r, 0, api.ErrSyntax)
	}
}

// P15.4: names.
func TestReaderName(t *testing.T) {
	for s, want := range map[string]api.Errno{
		"a": api.OK, "clerk_2": api.OK, "abcdefghijkl": api.OK, "abcdefghijklm": api.ErrName, "thirteen_long": api.ErrName,
		"7": api.ErrSyntax, "(": api.ErrSyntax, "->": api.ErrSyntax, "": api.ErrSyntax, "-a": api.ErrSyntax,
	} {
		r := reader(t, "x "+s)
		r.Next()
		got := r.Name()
		at, e := r.Err()
		if e != want || e == api.OK && (got != s || at != 0 || r.Peek().Kind != token.End) || e != api.OK && (got != "" || at != 2) {
			t.Errorf("Name at %q: %q %d %d", s, got, at, e)
		}
	}
	for _, s := range names.Keywords() {
		r := reader(t, s)
		if r.Name() != "" {
			t.Errorf("%q is a name", s)
		}
		fails(t, r, 0, api.ErrSyntax)
	}
	r := token.NewReader([]T{of(token.Word, "A", 0, 4)})
	if r.Name() != "" {
		t.Error("A is a name")
	}
	fails(t, r, 4, api.ErrName)
}

// P15.4: numbers.
func TestReaderNumber(t *testing.T) {
	for _, c := range []struct {
		s           string
		least, most int
		n           int
		e           api.Errno
	}{
		{"0", 0, 0, 0, api.OK}, {"0", 1, 9, 0, api.ErrRange}, {"999999", 0, 999999, 999999, api.OK}, {"999999", 0, 999998, 0, api.ErrRange},
		{"5", 5, 7, 5, api.OK}, {"7", 5, 7, 7, api.OK}, {"4", 5, 7, 0, api.ErrRange}, {"8", 5, 7, 0, api.ErrRange}, {"6", 7, 5, 0, api.ErrRange},
		{"6", math.MinInt, math.MaxInt, 6, api.OK}, {"6", math.MaxInt, math.MinInt, 0, api.ErrRange}, {"6", -9, -1, 0, api.ErrRange},
		{"a", 0, 9, 0, api.ErrSyntax}, {"a", 9, 0, 0, api.ErrSyntax}, {"-", 0, 9, 0, api.ErrSyntax}, {"", 0, 9, 0, api.ErrSyntax},
	} {
		r := reader(t, "x "+c.s)
		r.Next()
		n := r.Number(c.least, c.most)
		at, e := r.Err()
		if n != c.n || e != c.e || e == api.OK && (at != 0 || r.Peek().Kind != token.End) || e != api.OK && at != 2 {
			t.Errorf("Number(%d, %d) at %q: %d %d %d", c.least, c.most, c.s, n, at, e)
		}
	}
}

// P15.4, P15.5: the first error stays, and nothing goes on behind it.
func TestReaderSticky(t *testing.T) {
	for _, first := range []api.Errno{api.ErrLimit, api.ErrSyntax, -3, 77} {
		r := reader(t, "a b 7")
		r.Next()
		r.Fail(api.OK)
		fails(t, r, 0, api.OK)
		r.Fail(first)
		for range 2 {
			r.Fail(api.ErrCycle)
			r.Fail(api.OK)
			r.Expect("b")
			if r.Peek() != (T{}) || r.Next() != (T{}) || r.Is("b") || r.Is("") || r.Accept("b") || r.Accept("") || r.Name() != "" || r.Number(0, 9) != 0 {
				t.Error("a reader works on after an error")
			}
			fails(t, r, 2, first)
		}
	}
}

// P15.5: a nil reader.
func TestReaderNil(t *testing.T) {
	var r *token.Reader
	r.Expect("a")
	r.Fail(api.ErrCycle)
	if r.Peek() != (T{}) || r.Next() != (T{}) || r.Is("") || r.Accept("") || r.Name() != "" || r.Number(0, 0) != 0 {
		t.Error("a nil reader has tokens")
	}
	fails(t, r, 0, api.ErrArg)
}

// Two readers of one list do not share their places, nor the list with its owner.
func TestReaderAlone(t *testing.T) {
	l, _, _ := token.Scan("a b")
	p, q := token.NewReader(l), token.NewReader(l)
	p.Next()
	l[0].Text, l[1].Text = "x", "y"
	if p.Peek().Text != "b" || q.Peek().Text != "a" {
		t.Error("a reader shares its list")
	}
}
