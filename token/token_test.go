package token_test

import (
	"math/rand"
	"regexp"
	"slices"
	"strconv"
	"strings"
	"testing"

	"arbac/api"
	"arbac/token"
)

// T is short for lists of tokens.
type T = token.Token

// of returns a token.
func of(k token.Kind, text string, n, at int) T {
	return T{Kind: k, Text: text, N: n, At: at}
}

// The parts of a source by the words of the chapter.
var (
	gap    = regexp.MustCompile(`\A(?:[ \t\n\r]|#[^\n]*)+`)
	word   = regexp.MustCompile(`\A[a-z][a-z0-9_]*`)
	number = regexp.MustCompile(`\A[0-9]+`)
	symbol = regexp.MustCompile(`\A(?:->|<=|>=|==|[<>(),;:+-])`)
)

// scan is Scan by definition.
func scan(s string) ([]T, int, api.Errno) {
	if len(s) > 8000 {
		return nil, 0, api.ErrLimit
	}
	var l []T
	at := len(gap.FindString(s))
	for at < len(s) {
		rest := s[at:]
		var t T
		if w := word.FindString(rest); w != "" {
			t = of(token.Word, w, 0, at)
		} else if w := number.FindString(rest); w != "" {
			v, e := strconv.Atoi(w)
			behind := (rest + " ")[len(w)]
			if e != nil || v > 999999 || len(w) > 6 || strconv.Itoa(v) != w || behind == '_' || behind >= 'a' && behind <= 'z' {
				return nil, at, api.ErrSyntax
			}
			t = of(token.Number, w, v, at)
		} else if w := symbol.FindString(rest); w != "" {
			t = of(token.Symbol, w, 0, at)
		} else {
			return nil, at, api.ErrSyntax
		}
		l = append(l, t)
		at += len(t.Text)
		at += len(gap.FindString(s[at:]))
	}
	return append(l, of(token.End, "", 0, len(s))), 0, api.OK
}

// check compares Scan with its definition, and reports whether the source has tokens.
func check(t *testing.T, s string) bool {
	t.Helper()
	l, at, e := token.Scan(s)
	want, wantAt, wantE := scan(s)
	if !slices.Equal(l, want) || at != wantAt || e != wantE {
		t.Fatalf("Scan(%q): %v %d %d, not %v %d %d", s, l, at, e, want, wantAt, wantE)
	}
	return e == api.OK
}

// P15.1: the examples of the chapter.
func TestScanExamples(t *testing.T) {
	l, at, e := token.Scan("assign r1 by a1 for 30; # monthly")
	want := []T{
		of(token.Word, "assign", 0, 0), of(token.Word, "r1", 0, 7), of(token.Word, "by", 0, 10), of(token.Word, "a1", 0, 13),
		of(token.Word, "for", 0, 16), of(token.Number, "30", 30, 20), of(token.Symbol, ";", 0, 22), of(token.End, "", 0, 33),
	}
	if !slices.Equal(l, want) || at != 0 || e != api.OK {
		t.Errorf("%v %d %d", l, at, e)
	}
	l, at, e = token.Scan("a->b")
	want = []T{of(token.Word, "a", 0, 0), of(token.Symbol, "->", 0, 1), of(token.Word, "b", 0, 3), of(token.End, "", 0, 4)}
	if !slices.Equal(l, want) || at != 0 || e != api.OK {
		t.Errorf("%v %d %d", l, at, e)
	}
	for s, want := range map[string]int{"12x": 0, "a 007": 2, "r1 = r2": 3} {
		if l, at, e := token.Scan(s); len(l) != 0 || at != want || e != api.ErrSyntax {
			t.Errorf("Scan(%q): %v %d %d", s, l, at, e)
		}
	}
}

// texts are the texts of the tokens of a source, or the offset of its error.
func texts(s string) string {
	l, at, e := token.Scan(s)
	if e != api.OK {
		return strconv.Itoa(int(e)) + " at " + strconv.Itoa(at)
	}
	var b strings.Builder
	for _, t := range l {
		b.WriteString("[" + t.Text + "]")
	}
	return b.String()
}

// P15.1: the edges of each sort of token, written down by hand.
func TestScanEdges(t *testing.T) {
	for s, want := range map[string]string{
		"":                      "[]",
		" \t\n\r":               "[]",
		"#":                     "[]",
		"#a\nb#c\n\n#":          "[b][]",
		"a#b":                   "[a][]",
		"a#\rb\nc":              "[a][c][]",
		"a_1__2b":               "[a_1__2b][]",
		"thirteen_long by":      "[thirteen_long][by][]",
		"aB":                    "8 at 1",
		"_a":                    "8 at 0",
		"a\v":                   "8 at 1",
		"a\x00":                 "8 at 1",
		"ä":                     "8 at 0",
		"a\x85":                 "8 at 1",
		"0":                     "[0][]",
		"00":                    "8 at 0",
		"01":                    "8 at 0",
		"0a":                    "8 at 0",
		"0_":                    "8 at 0",
		"999999":                "[999999][]",
		"1000000":               "8 at 0",
		"1234567":               "8 at 0",
		"12 3456":               "[12][3456][]",
		"+1000000":              "8 at 1",
		"a 7_":                  "8 at 2",
		"7A":                    "8 at 1",
		"7#a":                   "[7][]",
		"7(":                    "[7][(][]",
		"-7":                    "[-][7][]",
		"3-7,10":                "[3][-][7][,][10][]",
		"-->":                   "[-][->][]",
		"->>":                   "[->][>][]",
		"- >":                   "[-][>][]",
		"<==":                   "8 at 2",
		"<===":                  "[<=][==][]",
		"<<=":                   "[<][<=][]",
		">==":                   "8 at 2",
		">=>=":                  "[>=][>=][]",
		"==":                    "[==][]",
		"=":                     "8 at 0",
		"===":                   "8 at 2",
		"====":                  "[==][==][]",
		"=>":                    "8 at 0",
		"<-":                    "[<][-][]",
		"<->":                   "[<][->][]",
		"(),;:+-<>":             "[(][)][,][;][:][+][-][<][>][]",
		"!a":                    "8 at 0",
		"a.b":                   "8 at 1",
		"x 9 y 08 @":            "8 at 6",
		"x @ 08":                "8 at 2",
		"count(a, b)<=1->not c": "[count][(][a][,][b][)][<=][1][->][not][c][]",
	} {
		check(t, s)
		if got := texts(s); got != want {
			t.Errorf("Scan(%q): %s, not %s", s, got, want)
		}
	}
}

// P15.1: each byte alone, in a word, in a number, and between symbols; each pair of bytes that matter.
func TestScanBytes(t *testing.T) {
	for c := range 256 {
		s := string([]byte{byte(c)})
		for _, l := range []string{s, "a" + s, "a" + s + "b", s + "7", "7" + s, "7" + s + "7", "-" + s, "=" + s, s + "=", "<" + s + "=", "#" + s + "a", "a #" + s + "\nb"} {
			check(t, l)
		}
	}
	for _, a := range pieces {
		for _, b := range pieces {
			check(t, a+b)
			check(t, a+" "+b)
		}
	}
}

// pieces are what random sources are made of.
var pieces = []string{
	"a", "z", "by", "not", "count", "r_1", "abcdefghijklm", "0", "7", "12", "999999", "1000000", "007", "_", "->", "<=", ">=", "==", "=", "<", ">", "(", ")", ",", ";", ":", "+", "-",
	" ", "\n", "\t", "\r", "  ", "# x", "# x = 007\n", "#", "A", "!", "é", "\x00", "\v",
}

// random returns a source of n pieces; few of them are wrong, if most of them shall have tokens.
func random(r *rand.Rand, n, of int) string {
	var b strings.Builder
	for range n {
		b.WriteString(pieces[r.Intn(of)])
		if r.Intn(2) == 0 {
			b.WriteString(" ")
		}
	}
	return b.String()
}

// P15.1, P15.2
func TestScanRandom(t *testing.T) {
	r := rand.New(rand.NewSource(1501))
	whole := 0
	for i := range 60000 {
		s := random(r, r.Intn(12), len(pieces)-(i%2)*5)
		if check(t, s) {
			whole++
			joins(t, s)
		}
	}
	if whole < 5000 {
		t.Errorf("only %d sources have tokens", whole)
	}
}

// joins checks Join for the tokens of a source.
func joins(t *testing.T, s string) {
	t.Helper()
	l, _, _ := token.Scan(s)
	joined := token.Join(l)
	m, at, e := token.Scan(joined)
	if len(m) != len(l) || at != 0 || e != api.OK {
		t.Fatalf("Scan(%q), joined from %q: %v %d %d", joined, s, m, at, e)
	}
	want := 0
	for i := range l {
		if m[i].At != want && l[i].Kind != token.End {
			t.Fatalf("Scan(%q): %v", joined, m)
		}
		want += len(l[i].Text) + 1
		l[i].At, m[i].At = 0, 0
	}
	if !slices.Equal(l, m) {
		t.Fatalf("Scan(%q): %v, not %v", joined, m, l)
	}
}

// P15.1: the limit counts all bytes, and comes before any other error.
func TestScanLimit(t *testing.T) {
	for _, c := range []string{"a", " ", "(", "a ", "#", "\n"} {
		s := strings.Repeat(c, 8000/len(c))
		if !check(t, s) {
			t.Errorf("8000 bytes of %q are refused", c)
		}
		for _, s := range []string{s + " ", s + "a", "=" + s, strings.Repeat(s, 3)} {
			if l, at, e := token.Scan(s); len(l) != 0 || at != 0 || e != api.ErrLimit {
				t.Errorf("%d bytes of %q: %d %d", len(s), c, at, e)
			}
		}
	}
	if l, at, e := token.Scan(strings.Repeat(" ", 7999) + "="); len(l) != 0 || at != 7999 || e != api.ErrSyntax {
		t.Errorf("= as the last byte: %d %d", at, e)
	}
	check(t, strings.Repeat("9", 8000))
}

// P15.2: Join takes any tokens as they are, and leaves out those of Kind End wherever they stand.
func TestJoin(t *testing.T) {
	for _, c := range []struct {
		list []T
		want string
	}{
		{nil, ""},
		{[]T{of(token.End, "", 0, 0)}, ""},
		{[]T{of(token.Word, "a", 0, 0)}, "a"},
		{[]T{of(token.Word, "a", 0, 7), of(token.Symbol, "->", 5, 3), of(token.Number, "12", 99, 0)}, "a -> 12"},
		{[]T{of(token.End, "x", 0, 0), of(token.Word, "a", 0, 0), of(token.End, "y", 0, 0), of(token.Word, "b", 0, 0), of(token.End, "", 0, 0)}, "a b"},
		{[]T{of(token.Word, "a", 0, 0), of(token.Word, "", 0, 0), of(77, "?", 0, 0)}, "a  ?"},
	} {
		if got := token.Join(c.list); got != c.want {
			t.Errorf("Join(%v): %q, not %q", c.list, got, c.want)
		}
	}
	l, _, _ := token.Scan("a->b # c\n(12)")
	if got := token.Join(l); got != "a -> b ( 12 )" {
		t.Errorf("%q", got)
	}
}

// P15.1: the kinds are numbered as the chapter says.
func TestKinds(t *testing.T) {
	if token.End != 0 || token.Word != 1 || token.Number != 2 || token.Symbol != 3 {
		t.Error("the kinds have other numbers")
	}
}
