package parser_test

import (
	"strconv"
	"strings"
	"testing"

	"arbac/api"
	"arbac/parser"
	"arbac/syntax"
)

// X and C are short for expressions and constraints.
type (
	X = syntax.Expr
	C = syntax.Constraint
)

// op returns an expression of an operator and operands.
func op(o syntax.Op, l ...X) X {
	return X{Op: o, Args: l}
}

// role, count, members and number return expressions without operands.
func role(s string) X { return X{Op: syntax.Role, Names: []string{s}} }

func count(l ...string) X { return X{Op: syntax.Count, Names: l} }

func members(s string) X { return X{Op: syntax.Members, Names: []string{s}} }

func number(n int) X { return X{Op: syntax.Number, N: n} }

// wantExpr checks what Expr returns: an expression, or an error with its offset and nothing else.
func wantExpr(t *testing.T, s string, want X, at int, e api.Errno) {
	t.Helper()
	x, i, err := parser.Expr(s)
	if !syntax.EqualExpr(x, want) || i != at || err != e {
		t.Errorf("Expr(%.200q): %v, %d, error %d; not %v, %d, error %d", s, x, i, err, want, at, e)
	}
}

// wantParse checks the same for Parse.
func wantParse(t *testing.T, s string, want []C, at int, e api.Errno) {
	t.Helper()
	l, i, err := parser.Parse(s)
	if !syntax.Equal(l, want) || i != at || err != e {
		t.Errorf("Parse(%.200q): %v, %d, error %d; not %v, %d, error %d", s, l, i, err, want, at, e)
	}
}

// P17.1: trees written down by hand, the examples of the chapter among them.
func TestExpr(t *testing.T) {
	a, b, c, d := role("a"), role("b"), role("c"), role("d")
	for s, want := range map[string]X{
		"a or b and not c -> d":  op(syntax.Implies, op(syntax.Or, a, op(syntax.And, b, op(syntax.Not, c))), d),
		"not count(a, b) <= 1":   op(syntax.Not, op(syntax.Le, count("a", "b"), number(1))),
		"1 + 2 + 3 < 7":          op(syntax.Lt, op(syntax.Add, op(syntax.Add, number(1), number(2)), number(3)), number(7)),
		"a":                      a,
		"0":                      number(0),
		"999999":                 number(999999),
		"true":                   op(syntax.True),
		"false":                  op(syntax.False),
		"count(b, a, c)":         count("b", "a", "c"),
		"count(a)":               count("a"),
		"members(a)":             members("a"),
		"members (a)":            members("a"),
		"true1":                  role("true1"),
		"counts":                 role("counts"),
		"abcdefghijkl":           role("abcdefghijkl"),
		"a or b or c":            op(syntax.Or, op(syntax.Or, a, b), c),
		"a or (b or c)":          op(syntax.Or, a, op(syntax.Or, b, c)),
		"a and b and c":          op(syntax.And, op(syntax.And, a, b), c),
		"a and (b and c)":        op(syntax.And, a, op(syntax.And, b, c)),
		"a + b + c":              op(syntax.Add, op(syntax.Add, a, b), c),
		"a + (b + c)":            op(syntax.Add, a, op(syntax.Add, b, c)),
		"a -> b -> c":            op(syntax.Implies, a, op(syntax.Implies, b, c)),
		"(a -> b) -> c":          op(syntax.Implies, op(syntax.Implies, a, b), c),
		"a and b or c and d":     op(syntax.Or, op(syntax.And, a, b), op(syntax.And, c, d)),
		"a -> b or c":            op(syntax.Implies, a, op(syntax.Or, b, c)),
		"not a and b":            op(syntax.And, op(syntax.Not, a), b),
		"not (a and b)":          op(syntax.Not, op(syntax.And, a, b)),
		"not not a":              op(syntax.Not, op(syntax.Not, a)),
		"not a + b == c":         op(syntax.Not, op(syntax.Eq, op(syntax.Add, a, b), c)),
		"(not a) == b":           op(syntax.Eq, op(syntax.Not, a), b),
		"a <= b":                 op(syntax.Le, a, b),
		"a < b":                  op(syntax.Lt, a, b),
		"a >= b":                 op(syntax.Ge, a, b),
		"a > b":                  op(syntax.Gt, a, b),
		"a == b":                 op(syntax.Eq, a, b),
		"(a < b) < c":            op(syntax.Lt, op(syntax.Lt, a, b), c),
		"a < (b < c)":            op(syntax.Lt, a, op(syntax.Lt, b, c)),
		"a < b and c < d":        op(syntax.And, op(syntax.Lt, a, b), op(syntax.Lt, c, d)),
		"members(a) + 1 > 2 + 3": op(syntax.Gt, op(syntax.Add, members("a"), number(1)), op(syntax.Add, number(2), number(3))),
		"a->b<=1+2":              op(syntax.Implies, a, op(syntax.Le, b, op(syntax.Add, number(1), number(2)))),
		"((((a))))":              a,
		"(count(a)) # (":         count("a"),
		" #no\r\n\ta #\n or\nb":  op(syntax.Or, a, b),
		"count(a,b)<1":           op(syntax.Lt, count("a", "b"), number(1)),
		"1 or 2 -> 3 and true":   op(syntax.Implies, op(syntax.Or, number(1), number(2)), op(syntax.And, number(3), op(syntax.True))),
	} {
		wantExpr(t, s, want, 0, api.OK)
	}
}

// P17.1: errors of texts that are no expression.
func TestExprErrors(t *testing.T) {
	for s, want := range map[string]struct {
		at int
		e  api.Errno
	}{
		"": {0, api.ErrSyntax}, "  \n": {3, api.ErrSyntax}, "# a": {3, api.ErrSyntax},
		"a < b < c": {6, api.ErrSyntax}, "a and": {5, api.ErrSyntax}, "a and or": {6, api.ErrSyntax}, "count()": {6, api.ErrSyntax},
		"a and thirteen_long": {6, api.ErrName}, "count(a, a) == 1": {0, api.ErrExists},
		"a b": {2, api.ErrSyntax}, "a thirteen_long": {2, api.ErrSyntax}, "a 1": {2, api.ErrSyntax}, "(a": {2, api.ErrSyntax}, "a)": {1, api.ErrSyntax}, "()": {1, api.ErrSyntax}, "a;": {1, api.ErrSyntax},
		"a -> ": {5, api.ErrSyntax}, "-> a": {0, api.ErrSyntax}, "a - b": {2, api.ErrSyntax}, "a < not b": {4, api.ErrSyntax}, "1 + not a": {4, api.ErrSyntax}, "not": {3, api.ErrSyntax},
		"count": {5, api.ErrSyntax}, "count a": {6, api.ErrSyntax}, "count thirteen_long": {6, api.ErrSyntax}, "count(a": {7, api.ErrSyntax}, "count(a,": {8, api.ErrSyntax}, "count(a b)": {8, api.ErrSyntax}, "count(a,)": {8, api.ErrSyntax},
		"count(1)": {6, api.ErrSyntax}, "count(true)": {6, api.ErrSyntax}, "count(thirteen_long)": {6, api.ErrName}, "count(a, thirteen_long)": {9, api.ErrName}, "count((a))": {6, api.ErrSyntax},
		"members(a, b)": {9, api.ErrSyntax}, "members()": {8, api.ErrSyntax}, "members(thirteen_long)": {8, api.ErrName}, "members(a": {9, api.ErrSyntax}, "members": {7, api.ErrSyntax},
		"static": {0, api.ErrSyntax}, "thirteen_long": {0, api.ErrName}, "thirteen_long and": {0, api.ErrName}, "thirteen_long by": {0, api.ErrName}, "by thirteen_long": {0, api.ErrSyntax},
		// What the lexer refuses comes first, wherever it stands.
		"a b c A": {6, api.ErrSyntax}, "or 007": {3, api.ErrSyntax}, "thirteen_long =": {14, api.ErrSyntax}, "a and 1234567": {6, api.ErrSyntax},
		strings.Repeat(" ", 8001): {0, api.ErrLimit}, ")" + strings.Repeat(" ", 8000): {0, api.ErrLimit}, strings.Repeat(" ", 8000): {8000, api.ErrSyntax},
		// What syntax refuses comes last.
		"count(a, a) and": {15, api.ErrSyntax}, "count(a, b, c, d, e, f, g, h, i)": {0, api.ErrForm}, "not count(a, b, a) < 1": {0, api.ErrExists},
		"count(a, a) < count(a, b, c, d, e, f, g, h, i)":                        {0, api.ErrExists},
		strings.Repeat("not ", 10) + "a":                                        {0, api.ErrLimit},
		strings.Repeat("not ", 1900) + "a":                                      {0, api.ErrLimit},
		strings.Repeat("a -> ", 1500) + "a":                                     {0, api.ErrLimit},
		strings.Repeat("a or ", 1500) + "a":                                     {0, api.ErrLimit},
		strings.Repeat("(", 8000):                                               {8000, api.ErrSyntax},
		strings.Repeat("a+", 10) + "a":                                          {0, api.ErrLimit},
		strings.Repeat("(", 3999) + "thirteen_long" + strings.Repeat(")", 3999): {0, api.ErrLimit},
		strings.Repeat("(", 3999) + "thirteen_long" + strings.Repeat(")", 3900): {3999, api.ErrName},
		strings.Repeat("(", 3999) + "a" + strings.Repeat(")", 4000):             {7999, api.ErrSyntax},
	} {
		wantExpr(t, s, X{}, want.at, want.e)
	}
}

// P17.1: expressions at the limits.
func TestExprLimits(t *testing.T) {
	tower := role("a")
	for range 9 {
		tower = op(syntax.Not, tower)
	}
	wantExpr(t, strings.Repeat("not ", 9)+"a", tower, 0, api.OK)
	wantExpr(t, strings.Repeat("(", 3999)+"ab"+strings.Repeat(")", 3999), role("ab"), 0, api.OK)
	wantExpr(t, "count(a, b, c, d, e, f, g, h)", count("a", "b", "c", "d", "e", "f", "g", "h"), 0, api.OK)
	wide := "a and b"
	for range 5 {
		wide = "(" + wide + ") or (" + wide + ")"
	}
	// 127 operators with the nesting 7.
	x, _, e := parser.Expr(wide)
	if e != api.OK || syntax.Size(x) != 127 || syntax.Depth(x) != 7 {
		t.Errorf("%d operators, error %d", syntax.Size(x), e)
	}
	wantExpr(t, "("+wide+") -> "+wide, X{}, 0, api.ErrLimit)
}

// P17.1: sources with their constraints.
func TestParse(t *testing.T) {
	few := op(syntax.Le, count("a", "b"), number(1))
	sod := C{Enforce: true, Kind: syntax.Static, Name: "sod", Expr: few}
	any := C{Kind: syntax.Dynamic, Name: "any", Expr: op(syntax.Or, role("a"), role("sod"))}
	two := C{Kind: syntax.Users, Name: "two", Expr: op(syntax.Ge, members("a"), number(2))}
	for s, want := range map[string][]C{
		"": nil, " \n\t#none": nil,
		"enforce static sod: count(a, b) <= 1;":                                                     {sod},
		"enforce\nstatic#\nsod :count(a,b)<=1 ;":                                                    {sod},
		"enforce static sod: (count(a, b)) <= (1);":                                                 {sod},
		"declare dynamic any: a or sod;declare users two: members(a) >= 2;":                         {any, two},
		"declare users two: members(a) >= 2; # two\nenforce static sod: count(a, b) <= 1;\n# end\n": {two, sod},
		"declare static sod: count(a, b) <= 1;":                                                     {{Kind: syntax.Static, Name: "sod", Expr: few}},
		"enforce dynamic statics: 1;":                                                               {{Enforce: true, Kind: syntax.Dynamic, Name: "statics", Expr: number(1)}},
	} {
		wantParse(t, s, want, 0, api.OK)
	}
}

// P17.1: errors of sources.
func TestParseErrors(t *testing.T) {
	for s, want := range map[string]struct {
		at int
		e  api.Errno
	}{
		";": {0, api.ErrSyntax}, "a": {0, api.ErrSyntax}, "thirteen_long": {0, api.ErrSyntax}, "static a: true;": {0, api.ErrSyntax}, "1": {0, api.ErrSyntax},
		"enforce": {7, api.ErrSyntax}, "declare ": {8, api.ErrSyntax}, "enforce declare": {8, api.ErrSyntax}, "enforce a: true;": {8, api.ErrSyntax}, "enforce thirteen_long": {8, api.ErrSyntax},
		"enforce static": {14, api.ErrSyntax}, "enforce static : true;": {15, api.ErrSyntax}, "enforce static true: true;": {15, api.ErrSyntax}, "enforce static thirteen_long: true;": {15, api.ErrName}, "enforce users static dynamic": {14, api.ErrSyntax},
		"enforce static a true;": {17, api.ErrSyntax}, "enforce static a;": {16, api.ErrSyntax}, "enforce static a thirteen_long": {17, api.ErrSyntax}, "enforce static a: ;": {18, api.ErrSyntax}, "enforce static a:": {17, api.ErrSyntax},
		"enforce static a: true": {22, api.ErrSyntax}, "enforce static a: true enforce": {23, api.ErrSyntax}, "enforce static a: true;;": {23, api.ErrSyntax}, "enforce static a: true; b": {24, api.ErrSyntax},
		"enforce static a: thirteen_long;": {18, api.ErrName}, "enforce static a: true or;": {25, api.ErrSyntax}, "enforce static a: b < c < d;": {24, api.ErrSyntax}, "enforce static a: b c;": {20, api.ErrSyntax},
		"enforce static a: true; declare dynamic b: by;": {43, api.ErrSyntax}, "enforce static a: true; declare dynamic b: !": {43, api.ErrSyntax}, "static !": {7, api.ErrSyntax},
		strings.Repeat("#", 8001):                         {0, api.ErrLimit},
		"enforce static a: true; declare users a: false;": {0, api.ErrExists}, "enforce static a: count(b, b);": {0, api.ErrExists}, "enforce static a: " + strings.Repeat("not ", 10) + "b;": {0, api.ErrLimit},
		"enforce static a: count(b, b); declare users a": {46, api.ErrSyntax}, "enforce static a: count(b, b); declare users a: true;": {0, api.ErrExists},
		"declare users a: count(b, c, d, e, f, g, h, i, j); declare users a: true;": {0, api.ErrForm},
		lines(33): {0, api.ErrLimit}, lines(33) + "a": {33 * 24, api.ErrSyntax},
	} {
		wantParse(t, s, nil, want.at, want.e)
	}
	if l, at, e := parser.Parse(lines(32)); len(l) != 32 || at != 0 || e != api.OK {
		t.Errorf("%d constraints, %d, error %d", len(l), at, e)
	}
}

// lines returns a source of n constraints, with 24 bytes each.
func lines(n int) string {
	s := ""
	for i := range n {
		s += "enforce users x" + strconv.Itoa(10+i) + ": true;"
	}
	return s
}

// P17.1, P17.4: a source that is short enough for the lexer, whose canonical text is too long.
func TestParseTextTooLong(t *testing.T) {
	// Each sum has 64 operands, and in its canonical text blanks around each of the 63 symbols.
	sum := "a"
	for range 6 {
		sum += "+(" + sum + ")"
	}
	short := ""
	for i := range 26 {
		short += "declare static x" + strconv.Itoa(10+i) + ":" + sum + ">0;"
	}
	if len(short) > api.MaxSource {
		t.Fatalf("the source has %d bytes", len(short))
	}
	wantParse(t, short, nil, 0, api.ErrLimit)
	wantParse(t, short[:len(short)-1], nil, len(short)-1, api.ErrSyntax)
	if l, _, e := parser.Parse(short[:len(short)/26*10]); e != api.OK || len(l) != 10 {
		t.Errorf("%d constraints, error %d", len(l), e)
	}
}

// spoil changes all that an expression holds.
func spoil(e X) {
	for i := range e.Names[:cap(e.Names)] {
		e.Names[:cap(e.Names)][i] = "spoilt"
	}
	for _, x := range e.Args {
		spoil(x)
	}
	for i := range e.Args[:cap(e.Args)] {
		e.Args[:cap(e.Args)][i] = X{Op: 99, N: 99}
	}
}

// The results share no memory, neither with each other nor within.
func TestMemory(t *testing.T) {
	s := "enforce static x: count(a, b) + count(a, b, c) <= 1 and (a or b); declare users y: members(a) < 3 and members(a) < 3;"
	want, _, _ := parser.Parse(s)
	want = syntax.Copy(want)
	for i := range want {
		l, _, _ := parser.Parse(s)
		spoil(l[i].Expr)
		if i == 0 && !syntax.Equal(l[1:], want[1:]) || i == 1 && !syntax.Equal(l[:1], want[:1]) {
			t.Errorf("constraint %d shares memory with another one", i)
		}
		args := want[i].Expr.Args
		l, _, _ = parser.Parse(s)
		spoil(l[i].Expr.Args[0])
		if !syntax.EqualExpr(l[i].Expr.Args[1], args[1]) {
			t.Errorf("operands of constraint %d share memory", i)
		}
	}
	wantParse(t, s, want, 0, api.OK)
	const text = "count(a, b) < 1"
	x, _, _ := parser.Expr(text)
	spoil(x)
	wantExpr(t, text, op(syntax.Lt, count("a", "b"), number(1)), 0, api.OK)
}

// P17.1: an expression within its own limits, whose canonical text is too long for the lexer.
func TestExprTextTooLong(t *testing.T) {
	var l []string
	for i := range 8 {
		l = append(l, "abcdefghijk"+string(rune('a'+i)))
	}
	e := count(l...)
	for range 6 {
		e = op(syntax.Or, e, e)
	}
	s := syntax.PrintExpr(e)
	if len(s) < 7000 || len(s) > api.MaxSource {
		t.Fatalf("%d bytes", len(s))
	}
	wantExpr(t, s, e, 0, api.OK)
	e = op(syntax.And, op(syntax.Le, e, e.Args[0]), op(syntax.True))
	s = syntax.PrintExpr(e)
	if len(s) <= api.MaxSource || syntax.CheckExpr(e) != api.OK {
		t.Fatalf("%d bytes", len(s))
	}
	wantExpr(t, s, X{}, 0, api.ErrLimit)
}
