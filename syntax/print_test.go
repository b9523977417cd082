package syntax_test

import (
	"math/rand"
	"slices"
	"strconv"
	"strings"
	"testing"

	"arbac/syntax"
)

// reader reads expressions by the grammar of layer 17, which the canonical text is one of.
type reader struct {
	words []string
	bad   bool
}

// split returns the words of a text, all separated by blanks.
func split(s string) []string {
	for _, x := range []string{"(", ")", ","} {
		s = strings.ReplaceAll(s, x, " "+x+" ")
	}
	return strings.Fields(s)
}

// read returns the expression of a text.
func read(s string) (X, bool) {
	r := &reader{words: split(s)}
	e := r.expression()
	return e, !r.bad && len(r.words) == 0
}

// accept takes a word, if it comes next.
func (r *reader) accept(s string) bool {
	if len(r.words) == 0 || r.words[0] != s {
		return false
	}
	r.words = r.words[1:]
	return true
}

// next takes any word.
func (r *reader) next() string {
	if len(r.words) == 0 {
		r.bad = true
		return ""
	}
	s := r.words[0]
	r.words = r.words[1:]
	return s
}

func (r *reader) expression() X {
	e := r.chain("or", syntax.Or, func() X { return r.chain("and", syntax.And, r.negation) })
	if r.accept("->") {
		return op(syntax.Implies, e, r.expression())
	}
	return e
}

// chain reads what associates to the left.
func (r *reader) chain(word string, o syntax.Op, part func() X) X {
	e := part()
	for r.accept(word) {
		e = op(o, e, part())
	}
	return e
}

func (r *reader) negation() X {
	if r.accept("not") {
		return op(syntax.Not, r.negation())
	}
	e := r.chain("+", syntax.Add, r.primary)
	for i, s := range []string{"<=", "<", ">=", ">", "=="} {
		if r.accept(s) {
			return op(syntax.Le+syntax.Op(i), e, r.chain("+", syntax.Add, r.primary))
		}
	}
	return e
}

func (r *reader) primary() X {
	s := r.next()
	n, err := strconv.Atoi(s)
	switch {
	case err == nil:
		return number(n)
	case s == "true":
		return op(syntax.True)
	case s == "false":
		return op(syntax.False)
	case s == "count":
		return with(syntax.Count, r.list()...)
	case s == "members":
		return with(syntax.Members, r.list()...)
	case s == "(":
		e := r.expression()
		r.bad = r.bad || !r.accept(")")
		return e
	}
	r.bad = r.bad || s == "" || s[0] < 'a' || s[0] > 'z' || s == "not" || s == "and" || s == "or"
	return role(s)
}

// list reads names in parentheses.
func (r *reader) list() []string {
	r.bad = r.bad || !r.accept("(")
	l := []string{r.next()}
	for r.accept(",") {
		l = append(l, r.next())
	}
	r.bad = r.bad || !r.accept(")")
	return l
}

// bare returns the texts in which one pair of parentheses around an operand is left out.
func bare(s string) []string {
	words := split(s)
	var l []string
	for i, w := range words {
		if w != "(" || i > 0 && (words[i-1] == "count" || words[i-1] == "members") {
			continue
		}
		depth, end := 1, i
		for depth > 0 {
			end++
			switch words[end] {
			case "(":
				depth++
			case ")":
				depth--
			}
		}
		l = append(l, strings.Join(slices.Concat(words[:i], words[i+1:end], words[end+1:]), " "))
	}
	return l
}

// spaced reports whether a text has blanks exactly where the chapter has them.
func spaced(s string) bool {
	want := strings.Join(split(s), " ")
	for _, x := range [][2]string{{"( ", "("}, {" )", ")"}, {" ,", ","}, {"count (", "count("}, {"members (", "members("}} {
		want = strings.ReplaceAll(want, x[0], x[1])
	}
	return s == want
}

// P16.4, P16.6: the text is that of the expression alone, and each pair of parentheses is needed.
func TestPrintExprRandom(t *testing.T) {
	r := rand.New(rand.NewSource(1604))
	for range 20000 {
		e := good(r, 1+r.Intn(7))
		s := syntax.PrintExpr(e)
		if exprError(e) != 0 {
			if s != "" {
				t.Fatalf("the text %q of %v", s, e)
			}
			continue
		}
		if x, ok := read(s); !ok || !syntax.EqualExpr(x, e) || !spaced(s) {
			t.Fatalf("the text %q of %v is one of %v", s, e, x)
		}
		for _, b := range bare(s) {
			if x, ok := read(b); ok && syntax.EqualExpr(x, e) {
				t.Fatalf("%q is enough for %q", b, s)
			}
		}
	}
}

// P16.4: each operator as each operand of each other one.
func TestPrintExprPairs(t *testing.T) {
	inner := []X{op(syntax.Not, role("x"))}
	for _, o := range binaries {
		inner = append(inner, op(o, role("x"), role("y")))
	}
	for _, o := range leaves[1:] {
		inner = append(inner, X{Op: o, Names: letters(map[syntax.Op]int{syntax.Role: 1, syntax.Count: 2, syntax.Members: 1}[o])})
	}
	for _, x := range append(inner, number(7)) {
		outer := []X{op(syntax.Not, x)}
		for _, o := range binaries {
			outer = append(outer, op(o, x, role("z")), op(o, role("z"), x), op(o, x, x))
		}
		for _, e := range outer {
			s := syntax.PrintExpr(e)
			if y, ok := read(s); !ok || !syntax.EqualExpr(y, e) || !spaced(s) {
				t.Errorf("the text %q of %v is one of %v", s, e, y)
			}
			for _, b := range bare(s) {
				if y, ok := read(b); ok && syntax.EqualExpr(y, e) {
					t.Errorf("%q is enough for %q", b, s)
				}
			}
		}
	}
}

// P16.4: the examples of the chapter, and texts written down by hand.
func TestPrintExpr(t *testing.T) {
	a, b, c, d := role("a"), role("b"), role("c"), role("d")
	le := op(syntax.Le, a, b)
	for want, e := range map[string]X{
		"a and not b -> count(c, d) <= 1": first(),
		"a and (b and c)":                 op(syntax.And, a, op(syntax.And, b, c)),
		"a and b and c":                   op(syntax.And, op(syntax.And, a, b), c),
		"a -> b -> c":                     op(syntax.Implies, a, op(syntax.Implies, b, c)),
		"(a -> b) -> c":                   op(syntax.Implies, op(syntax.Implies, a, b), c),
		"not (a and b)":                   op(syntax.Not, op(syntax.And, a, b)),
		"not count(a) <= 0":               op(syntax.Not, op(syntax.Le, count("a"), number(0))),
		"(not a) <= 0":                    op(syntax.Le, op(syntax.Not, a), number(0)),
		"a or b or c":                     op(syntax.Or, op(syntax.Or, a, b), c),
		"a or (b or c)":                   op(syntax.Or, a, op(syntax.Or, b, c)),
		"a or b and c":                    op(syntax.Or, a, op(syntax.And, b, c)),
		"(a or b) and c":                  op(syntax.And, op(syntax.Or, a, b), c),
		"a or b -> c or d":                op(syntax.Implies, op(syntax.Or, a, b), op(syntax.Or, c, d)),
		"a or (b -> c)":                   op(syntax.Or, a, op(syntax.Implies, b, c)),
		"not not a":                       op(syntax.Not, op(syntax.Not, a)),
		"not a and not b":                 op(syntax.And, op(syntax.Not, a), op(syntax.Not, b)),
		"a + b + c < d + a":               op(syntax.Lt, op(syntax.Add, op(syntax.Add, a, b), c), op(syntax.Add, d, a)),
		"a + (b + c)":                     op(syntax.Add, a, op(syntax.Add, b, c)),
		"(a <= b) + (not a)":              op(syntax.Add, le, op(syntax.Not, a)),
		"(a <= b) <= (a <= b)":            op(syntax.Le, le, le),
		"a <= b and a <= b":               op(syntax.And, le, le),
		"(a -> b) >= (a and b)":           op(syntax.Ge, op(syntax.Implies, a, b), op(syntax.And, a, b)),
		"a > b":                           op(syntax.Gt, a, b),
		"a == b":                          op(syntax.Eq, a, b),
		"true -> false":                   op(syntax.Implies, op(syntax.True), op(syntax.False)),
		"members(a) + 999999 == 0":        op(syntax.Eq, op(syntax.Add, with(syntax.Members, "a"), number(999999)), number(0)),
		"count(b, a)":                     count("b", "a"),
	} {
		if got := syntax.PrintExpr(e); got != want {
			t.Errorf("%q, not %q", got, want)
		}
	}
	for _, e := range []X{{}, op(99), number(-1), role("by"), count("a", "a"), tower(11), wide(201), op(syntax.And, a), {Op: syntax.True, N: 1}} {
		if got := syntax.PrintExpr(e); got != "" {
			t.Errorf("%q is the text of %v", got, e)
		}
	}
	if got := syntax.PrintExpr(wide(200)); len(split(got)) < 200 || syntax.PrintExpr(tower(10)) != strings.Repeat("not ", 9)+"a" {
		t.Errorf("%q at the limits", got)
	}
}

// P16.5
func TestPrint(t *testing.T) {
	sod := of(true, syntax.Static, "sod", op(syntax.Le, count("a", "b"), number(1)))
	l := []C{sod, of(false, syntax.Dynamic, "d_1", first()), of(false, syntax.Users, "abcdefghijkl", op(syntax.Ge, with(syntax.Members, "a"), number(2))), of(true, syntax.Users, "u", op(syntax.True))}
	want := []string{
		"enforce static sod: count(a, b) <= 1;\n",
		"declare dynamic d_1: a and not b -> count(c, d) <= 1;\n",
		"declare users abcdefghijkl: members(a) >= 2;\n",
		"enforce users u: true;\n",
	}
	for i := range 5 {
		if got := syntax.Print(l[:i]); got != strings.Join(want[:i], "") {
			t.Errorf("%q", got)
		}
	}
	for _, c := range []C{{}, of(true, 0, "a", sod.Expr), of(true, 4, "a", sod.Expr), of(true, 1, "sod", sod.Expr), of(true, 1, "A", sod.Expr), of(true, 1, "a", role("by"))} {
		if got := syntax.Print([]C{sod, c}); got != "" {
			t.Errorf("%q is the text of %v", got, c)
		}
	}
	if got := syntax.Print(many(32, "x")); strings.Count(got, "\n") != 32 || syntax.Print(many(33, "x")) != "" {
		t.Errorf("%q is the text of many constraints", got)
	}
}

// P16.6: the texts of different expressions are different.
func TestTextsDiffer(t *testing.T) {
	r := rand.New(rand.NewSource(1660))
	seen := map[string]X{}
	for range 40000 {
		e := good(r, 1+r.Intn(3))
		s := syntax.PrintExpr(e)
		if x, ok := seen[s]; ok && !syntax.EqualExpr(x, e) {
			t.Fatalf("%q is the text of %v and of %v", s, x, e)
		}
		seen[s] = e
	}
}
