package parser_test

import (
	"math/rand"
	"slices"
	"strconv"
	"strings"
	"testing"

	"arbac/api"
	"arbac/names"
	"arbac/parser"
	"arbac/syntax"
)

// grammar is that of the chapter, with { } and [ ] written as rules of their own. A symbol that is on no left side stands for itself, but for name and number.
const grammar = `
source = constraint
source = source constraint
constraint = purpose kind name : expression ;
purpose = enforce
purpose = declare
kind = static
kind = dynamic
kind = users
expression = disjunction
expression = disjunction -> expression
disjunction = conjunction
disjunction = disjunction or conjunction
conjunction = negation
conjunction = conjunction and negation
negation = not negation
negation = comparison
comparison = sum
comparison = sum relation sum
relation = <=
relation = <
relation = >=
relation = >
relation = ==
sum = primary
sum = sum + primary
primary = number
primary = true
primary = false
primary = name
primary = count ( list )
primary = members ( name )
primary = ( expression )
list = name
list = list , name
`

// rule is a line of the grammar.
type rule struct {
	left  string
	right []string
}

// rules returns the lines of the grammar, and its left sides.
func rules() ([]rule, map[string]bool) {
	var l []rule
	left := map[string]bool{}
	for _, line := range strings.Split(strings.TrimSpace(grammar), "\n") {
		words := strings.Fields(line)
		l = append(l, rule{words[0], words[2:]})
		left[words[0]] = true
	}
	return l, left
}

// item says that the first dot symbols of a rule have been read since the token number from.
type item struct{ rule, dot, from int }

// earley recognizes words of the grammar; sets[k] are all items that fit the first k tokens.
type earley struct {
	rules []rule
	left  map[string]bool
	sets  [][]item
}

// next returns the symbol behind the dot of an item; none if there is none.
func (g *earley) next(x item) string {
	if right := g.rules[x.rule].right; x.dot < len(right) {
		return right[x.dot]
	}
	return ""
}

// add closes a list of items, as the set of the tokens so far.
func (g *earley) add(l []item) {
	k := len(g.sets)
	seen := map[item]bool{}
	var set []item
	put := func(x item) {
		if !seen[x] {
			seen[x] = true
			set = append(set, x)
		}
	}
	for _, x := range l {
		put(x)
	}
	for i := 0; i < len(set); i++ {
		x := set[i]
		switch s := g.next(x); {
		case s == "":
			// No rule is empty, so that an ended one began at an earlier token.
			for _, y := range g.sets[x.from] {
				if g.next(y) == g.rules[x.rule].left {
					put(item{y.rule, y.dot + 1, y.from})
				}
			}
		case g.left[s]:
			for j, r := range g.rules {
				if r.left == s {
					put(item{j, 0, k})
				}
			}
		}
	}
	g.sets = append(g.sets, set)
}

// fits reports whether a token is one for a symbol.
func fits(s, text string) bool {
	switch s {
	case "name":
		return names.Valid(text)
	case "number":
		return text[0] >= '0' && text[0] <= '9'
	}
	return s == text
}

// refused returns the number of the first token with which no word of the grammar goes on, and the error; OK if there is none.
func refused(start string, tokens []string) (int, api.Errno) {
	g := &earley{}
	g.rules, g.left = rules()
	var first []item
	for i, r := range g.rules {
		if r.left == start {
			first = append(first, item{i, 0, 0})
		}
	}
	g.add(first)
	for k, text := range tokens {
		var l []item
		e := api.ErrSyntax
		for _, x := range g.sets[k] {
			s := g.next(x)
			if s != "" && !g.left[s] && fits(s, text) {
				l = append(l, item{x.rule, x.dot + 1, x.from})
			}
			if s == "name" && text[0] >= 'a' && text[0] <= 'z' && !names.Valid(text) && !slices.Contains(names.Keywords(), text) {
				e = api.ErrName
			}
		}
		if len(l) == 0 {
			return k, e
		}
		g.add(l)
	}
	for _, x := range g.sets[len(tokens)] {
		if g.next(x) == "" && x.from == 0 && g.rules[x.rule].left == start {
			return 0, api.OK
		}
	}
	if start == "source" && len(tokens) == 0 {
		return 0, api.OK
	}
	return len(tokens), api.ErrSyntax
}

// deriver makes random words of the grammar, rule by rule, with their trees.
type deriver struct {
	*rand.Rand
	tokens []string
}

// chance is true once in n times.
func (d *deriver) chance(n int) bool { return d.Intn(n) == 0 }

func (d *deriver) put(l ...string) { d.tokens = append(d.tokens, l...) }

func (d *deriver) name() string {
	s := []string{"a", "b", "c", "r1", "x_", "abcdefghijkl", "nota", "sod"}[d.Intn(8)]
	d.put(s)
	return s
}

func (d *deriver) source() []C {
	var l []C
	for i := range d.Intn(4) {
		if d.chance(8) {
			// The name of the constraint before it.
			i = max(i-1, 0)
		}
		c := C{Enforce: d.chance(2), Kind: syntax.Kind(1 + d.Intn(3)), Name: "c" + strconv.Itoa(i)}
		d.put(map[bool]string{true: "enforce", false: "declare"}[c.Enforce])
		d.put([]string{"static", "dynamic", "users"}[c.Kind-1], c.Name, ":")
		c.Expr = d.expression(d.Intn(3))
		d.put(";")
		l = append(l, c)
	}
	return l
}

func (d *deriver) expression(depth int) X {
	e := d.chain("or", syntax.Or, 4, func() X {
		return d.chain("and", syntax.And, 4, func() X { return d.negation(depth) })
	})
	if d.chance(5) {
		d.put("->")
		return op(syntax.Implies, e, d.expression(depth))
	}
	return e
}

// chain makes operands with an operator between them, which associates to the left; one time in n a further one.
func (d *deriver) chain(word string, o syntax.Op, n int, operand func() X) X {
	e := operand()
	for d.chance(n) {
		d.put(word)
		e = op(o, e, operand())
	}
	return e
}

func (d *deriver) negation(depth int) X {
	if d.chance(5) {
		d.put("not")
		return op(syntax.Not, d.negation(depth))
	}
	sum := func() X {
		return d.chain("+", syntax.Add, 5, func() X { return d.primary(depth) })
	}
	e := sum()
	if d.chance(4) {
		i := d.Intn(5)
		d.put([]string{"<=", "<", ">=", ">", "=="}[i])
		return op([]syntax.Op{syntax.Le, syntax.Lt, syntax.Ge, syntax.Gt, syntax.Eq}[i], e, sum())
	}
	return e
}

func (d *deriver) primary(depth int) X {
	switch i := d.Intn(8); {
	case i == 0:
		n := []int{0, 1, 7, 10, 999999}[d.Intn(5)]
		d.put(strconv.Itoa(n))
		return number(n)
	case i == 1:
		d.put("true")
		return op(syntax.True)
	case i == 2:
		d.put("false")
		return op(syntax.False)
	case i == 3:
		d.put("count", "(")
		e := count(d.name())
		for d.chance(3) {
			d.put(",")
			e.Names = append(e.Names, d.name())
		}
		d.put(")")
		return e
	case i == 4:
		d.put("members", "(")
		e := members(d.name())
		d.put(")")
		return e
	case i < 7 && depth > 0:
		d.put("(")
		e := d.expression(depth - 1)
		d.put(")")
		return e
	}
	return role(d.name())
}

// text returns a source with these tokens, with random blanks and comments, and their offsets; the last one is that of the end.
func (d *deriver) text(tokens []string) (string, []int) {
	s := ""
	var at []int
	for i, x := range tokens {
		if i == 0 || d.chance(2) || !splits(tokens[i-1], x) {
			s += []string{" ", "  ", "\n", "\t", "\r\n", " # no (\n", "#\n"}[d.Intn(7)]
		}
		at = append(at, len(s))
		s += x
	}
	s += []string{"", " ", "\n", "# a", " #"}[d.Intn(5)]
	return s, append(at, len(s))
}

// splits reports whether two tokens stay two of them with nothing in between.
func splits(a, b string) bool {
	word := func(s string) bool { return s[0] >= 'a' && s[0] <= 'z' || s[0] >= '0' && s[0] <= '9' }
	return word(a) != word(b) || strings.ContainsAny(a+b, "(),;")
}

// damage makes a random change of the tokens.
func (d *deriver) damage() {
	pool := []string{"->", "<=", ">=", "==", "<", ">", "(", ")", ",", ";", ":", "+", "-", "not", "and", "or", "true", "count", "members", "static", "enforce", "by", "a", "thirteen_long", "12", "users"}
	i := d.Intn(len(d.tokens) + 1)
	switch d.Intn(3) {
	case 0:
		d.tokens = slices.Insert(d.tokens, i, pool[d.Intn(len(pool))])
	case 1:
		d.tokens = slices.Delete(d.tokens, i, min(i+1, len(d.tokens)))
	case 2:
		if i < len(d.tokens) {
			d.tokens[i] = pool[d.Intn(len(pool))]
		}
	}
}

// P17.1, P17.3, P17.4: random words of the grammar, in random layouts, have the trees with which they are derived.
func TestDerivedExpr(t *testing.T) {
	seen := map[api.Errno]int{}
	for i := range 30000 {
		d := &deriver{Rand: rand.New(rand.NewSource(int64(i)))}
		e := d.expression(d.Intn(4))
		s, _ := d.text(d.tokens)
		if len(s) > api.MaxSource {
			continue
		}
		err := syntax.CheckExpr(e)
		if err == api.OK {
			wantExpr(t, s, e, 0, api.OK)
		} else {
			wantExpr(t, s, X{}, 0, err)
		}
		seen[err]++
	}
	if seen[api.OK] < 10000 || seen[api.ErrLimit] < 100 || seen[api.ErrExists] < 100 {
		t.Errorf("errors: %v", seen)
	}
}

// P17.1, P17.3, P17.4
func TestDerivedSource(t *testing.T) {
	seen := map[api.Errno]int{}
	for i := range 20000 {
		d := &deriver{Rand: rand.New(rand.NewSource(int64(-i)))}
		l := d.source()
		s, _ := d.text(d.tokens)
		if len(s) > api.MaxSource {
			continue
		}
		err := syntax.Check(l)
		if err == api.OK {
			wantParse(t, s, l, 0, api.OK)
		} else {
			wantParse(t, s, nil, 0, err)
		}
		seen[err]++
	}
	if seen[api.OK] < 10000 || seen[api.ErrLimit] < 50 || seen[api.ErrExists] < 100 {
		t.Errorf("errors: %v", seen)
	}
}

// P17.1: the errors of random lists of tokens, with their offsets.
func TestRefused(t *testing.T) {
	seen := map[api.Errno]int{}
	for i := range 12000 {
		d := &deriver{Rand: rand.New(rand.NewSource(int64(i)))}
		start := []string{"source", "expression"}[i%2]
		if start == "source" {
			d.source()
		} else {
			d.expression(d.Intn(3))
		}
		for range d.Intn(4) {
			d.damage()
		}
		s, at := d.text(d.tokens)
		k, want := refused(start, d.tokens)
		var offset int
		var e api.Errno
		if start == "source" {
			_, offset, e = parser.Parse(s)
		} else {
			_, offset, e = parser.Expr(s)
		}
		seen[want]++
		if want != api.OK && (e != want || offset != at[k]) {
			t.Fatalf("%s %q: %d, error %d; not %d, error %d", start, s, offset, e, at[k], want)
		}
		if want == api.OK && (offset != 0 || e == api.ErrSyntax || e == api.ErrName) {
			t.Fatalf("%s %q: %d, error %d", start, s, offset, e)
		}
	}
	if seen[api.OK] < 1000 || seen[api.ErrSyntax] < 1000 || seen[api.ErrName] < 50 {
		t.Errorf("errors: %v", seen)
	}
}

// tree returns a random expression, with Depth at most depth.
func tree(r *rand.Rand, depth int) X {
	if depth <= 1 || r.Intn(6) == 0 {
		return []X{number(r.Intn(1000000)), op(syntax.True), op(syntax.False), role("a"), count("b", "a"), members("abcdefghijkl")}[r.Intn(6)]
	}
	if o := syntax.Not + syntax.Op(r.Intn(10)); o > syntax.Not {
		return op(o, tree(r, depth-1), tree(r, depth-1))
	}
	return op(syntax.Not, tree(r, depth-1))
}

// P17.2: canonical texts are read back.
func TestCanonical(t *testing.T) {
	r := rand.New(rand.NewSource(1702))
	n := 0
	for range 20000 {
		l := make([]C, r.Intn(4))
		for i := range l {
			l[i] = C{Enforce: r.Intn(2) == 0, Kind: syntax.Kind(1 + r.Intn(3)), Name: "c" + strconv.Itoa(i), Expr: tree(r, 1+r.Intn(8))}
		}
		if syntax.Check(l) != api.OK {
			continue
		}
		n++
		wantParse(t, syntax.Print(l), l, 0, api.OK)
		for _, c := range l {
			wantExpr(t, syntax.PrintExpr(c.Expr), c.Expr, 0, api.OK)
		}
	}
	if n < 10000 {
		t.Errorf("only %d lists were accepted", n)
	}
}

// P17.2: the longest canonical text.
func TestCanonicalLongest(t *testing.T) {
	var l []C
	for i := range 32 {
		e := count("a", "b")
		for range 8 {
			e = op(syntax.And, e, count("a", "b"))
		}
		l = append(l, C{Kind: syntax.Static, Name: "c" + strconv.Itoa(i), Expr: e})
	}
	left := api.MaxSource - len(syntax.Print(l))
	for _, c := range l {
		lengthen(c.Expr, &left)
	}
	s := syntax.Print(l)
	if len(s) != api.MaxSource {
		t.Fatalf("%d bytes", len(s))
	}
	wantParse(t, s, l, 0, api.OK)
}

// lengthen adds left bytes to the names in an expression, or as many as it can.
func lengthen(e X, left *int) {
	for i := range e.Names {
		n := min(*left, api.MaxName-len(e.Names[i]))
		e.Names[i] += strings.Repeat("x", n)
		*left -= n
	}
	for _, x := range e.Args {
		lengthen(x, left)
	}
}

// full returns a text with parentheses around each operand, and sometimes further ones.
func full(r *rand.Rand, e X) string {
	s := ""
	symbols := []string{"and", "or", "->", "<=", "<", ">=", ">", "==", "+"}
	switch len(e.Args) {
	case 0:
		s = syntax.PrintExpr(e)
	case 1:
		s = "not (" + full(r, e.Args[0]) + ")"
	default:
		s = "(" + full(r, e.Args[0]) + ")" + symbols[e.Op-syntax.And] + "(" + full(r, e.Args[1]) + ")"
	}
	n := r.Intn(6) / 4
	return strings.Repeat("(", n) + s + strings.Repeat(")", n)
}

// P17.3: needless parentheses do not matter.
func TestParentheses(t *testing.T) {
	r := rand.New(rand.NewSource(1703))
	n := 0
	for range 10000 {
		e := tree(r, 1+r.Intn(7))
		s := full(r, e)
		if syntax.CheckExpr(e) != api.OK || len(s) > api.MaxSource {
			continue
		}
		n++
		wantExpr(t, s, e, 0, api.OK)
	}
	if n < 5000 {
		t.Errorf("only %d expressions were short enough", n)
	}
}

// P17.2, P17.4, P1: whatever is returned, for any text, is accepted and read back from its canonical text.
func TestAnyText(t *testing.T) {
	r := rand.New(rand.NewSource(1704))
	pieces := []string{"a", "b1", "1", "20", "(", ")", "((", "))", "->", "<=", "==", "+", "-", ",", ";", ":", " and ", " or ", " not ", "count(", "members(", " enforce static ", " declare users ", "x:", "true", "#", "\n", "\x00", "\xff", "A", "abcdefghijklm"}
	n := 0
	for i := range 60000 {
		s := ""
		for range r.Intn(9) {
			// Mostly without the last ones, which no source has outside of comments.
			s += pieces[r.Intn(len(pieces)-5*min(1, i%4))]
		}
		if e, at, err := parser.Expr(s); err == api.OK {
			n++
			if at != 0 || syntax.CheckExpr(e) != api.OK {
				t.Fatalf("Expr(%q): %v, %d", s, e, at)
			}
			wantExpr(t, syntax.PrintExpr(e), e, 0, api.OK)
		} else if at < 0 || at > len(s) || !syntax.EqualExpr(e, X{}) {
			t.Fatalf("Expr(%q): %v, %d, error %d", s, e, at, err)
		}
		if l, at, err := parser.Parse(s); err == api.OK {
			if at != 0 || syntax.Check(l) != api.OK {
				t.Fatalf("Parse(%q): %v, %d", s, l, at)
			}
			wantParse(t, syntax.Print(l), l, 0, api.OK)
		} else if at < 0 || at > len(s) || len(l) > 0 {
			t.Fatalf("Parse(%q): %v, %d, error %d", s, l, at, err)
		}
	}
	if n < 1000 {
		t.Errorf("only %d texts were expressions", n)
	}
}
