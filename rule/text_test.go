package rule_test

import (
	"fmt"
	"math/rand"
	"slices"
	"strings"
	"testing"

	"arbac/api"
	"arbac/bits"
	"arbac/cube"
	"arbac/days"
	"arbac/names"
	"arbac/rule"
	"arbac/token"
)

// few is a table whose roles 3 and 4 are administrative.
const few = "clerk auditor hr boss teller"

var bosses = bits.Of(3, 4)

// refused checks that a source is refused, with nothing but an offset and an error.
func refused(t *testing.T, s string, roles *names.Table, at int, want api.Errno) {
	t.Helper()
	if l, got, e := rule.Parse(s, roles, bosses); len(l) != 0 || got != at || e != want {
		t.Errorf("Parse(%.60q): %v, error %d at %d, not %d at %d", s, texts(l), e, got, want, at)
	}
}

// parsed returns the rules of a source.
func parsed(t *testing.T, s string, roles *names.Table, admin S) []R {
	t.Helper()
	l, at, e := rule.Parse(s, roles, admin)
	if e != api.OK || at != 0 {
		t.Fatalf("Parse(%q): error %d at %d", s, e, at)
	}
	return l
}

// P23.2, P23.3, P23.6: the examples of the chapter.
func TestExamples(t *testing.T) {
	roles := table(t, "clerk auditor hr")
	l := parsed(t, "assign auditor by hr if clerk and not auditor on 3-7, 10 for 30;", roles, bits.Of(3))
	if len(l) != 1 || !same(l[0], R{Admin: 3, Target: 2, If: cubed(t, "1 !2"), When: on(t, "3-7,10"), Longest: 30}) {
		t.Fatalf("Parse: %v", texts(l))
	}
	if s := rule.Print(l, roles); s != "assign auditor by hr if clerk and not auditor on 3-7,10 for 30;\n" {
		t.Errorf("Print: %q", s)
	}
	for _, c := range []struct {
		s  string
		at int
		e  api.Errno
	}{
		{"assign hr by hr;", 7, api.ErrType}, {"revoke clerk by hr for 3;", 19, api.ErrSyntax},
		{"assign clerk by hr if clerk and clerk;", 32, api.ErrExists}, {"assign clerk by hr on 7-3;", 24, api.ErrRange},
	} {
		if l, at, e := rule.Parse(c.s, roles, bits.Of(3)); len(l) != 0 || at != c.at || e != c.e {
			t.Errorf("Parse(%q): error %d at %d", c.s, e, at)
		}
	}
}

// P23.2: what each form of a rule says.
func TestParse(t *testing.T) {
	all := days.All()
	for _, c := range []struct {
		s    string
		want []R
	}{
		{"", nil}, {" \n# nothing\n", nil},
		{"assign clerk by hr;", []R{{Admin: 3, Target: 1, When: all}}},
		{"revoke clerk by boss;", []R{{Revoke: true, Admin: 4, Target: 1, When: all}}},
		{"assign clerk by hr if auditor;", []R{{Admin: 3, Target: 1, If: cubed(t, "2"), When: all}}},
		{"assign clerk by hr if not clerk;", []R{{Admin: 3, Target: 1, If: cubed(t, "!1"), When: all}}},
		{"assign clerk by hr if teller and not clerk and auditor;", []R{{Admin: 3, Target: 1, If: cubed(t, "!1 2 5"), When: all}}},
		{"assign clerk by hr on all;", []R{{Admin: 3, Target: 1, When: all}}},
		{"assign clerk by hr on none;", []R{{Admin: 3, Target: 1}}},
		{"assign clerk by hr on 0;", []R{{Admin: 3, Target: 1, When: on(t, "0")}}},
		{"assign clerk by hr on 30000;", []R{{Admin: 3, Target: 1, When: on(t, "30000")}}},
		{"assign clerk by hr on 30000-;", []R{{Admin: 3, Target: 1, When: on(t, "30000")}}},
		{"assign clerk by hr on 0-30000;", []R{{Admin: 3, Target: 1, When: all}}},
		{"assign clerk by hr on 0-;", []R{{Admin: 3, Target: 1, When: all}}},
		{"assign clerk by hr on 7-7;", []R{{Admin: 3, Target: 1, When: on(t, "7")}}},
		{"assign clerk by hr on 5- , 3;", []R{{Admin: 3, Target: 1, When: on(t, "3,5-")}}},
		{"assign clerk by hr on 20-, 5-9, 7-12, 3, 3, 4;", []R{{Admin: 3, Target: 1, When: on(t, "3-12,20-")}}},
		{"assign clerk by hr for 1;", []R{{Admin: 3, Target: 1, When: all, Longest: 1}}},
		{"assign clerk by hr for 30000;", []R{{Admin: 3, Target: 1, When: all, Longest: 30000}}},
		{"assign clerk by hr if auditor on 3- for 9;", []R{{Admin: 3, Target: 1, If: cubed(t, "2"), When: on(t, "3-"), Longest: 9}}},
		{"revoke clerk by hr on 3-5;", []R{{Revoke: true, Admin: 3, Target: 1, When: on(t, "3-5")}}},
		{"revoke clerk by hr on none;", []R{{Revoke: true, Admin: 3, Target: 1}}},
		{"assign clerk#\nby\thr\r\non 3 - 5,6;revoke auditor by boss;#;", []R{{Admin: 3, Target: 1, When: on(t, "3-6")}, {Revoke: true, Admin: 4, Target: 2, When: all}}},
		{"assign clerk by hr; assign clerk by hr;", []R{{Admin: 3, Target: 1, When: all}, {Admin: 3, Target: 1, When: all}}},
	} {
		if l := parsed(t, c.s, table(t, few), bosses); !slices.EqualFunc(l, c.want, same) {
			t.Errorf("Parse(%q): %v, not %v", c.s, texts(l), texts(c.want))
		}
	}
}

// P23.2: each error with its offset, and the first of several.
func TestParseErrors(t *testing.T) {
	roles := table(t, few)
	for _, c := range []struct {
		s  string
		at int
		e  api.Errno
	}{
		// Those of the lexer come before all others.
		{"clerk $", 6, api.ErrSyntax}, {"assign hr by hr; 007", 17, api.ErrSyntax}, {"assign Clerk by hr;", 7, api.ErrSyntax}, {"clerk 1234567", 6, api.ErrSyntax},
		// The grammar.
		{"clerk", 0, api.ErrSyntax}, {"by", 0, api.ErrSyntax}, {";", 0, api.ErrSyntax}, {"3", 0, api.ErrSyntax}, {"enforce", 0, api.ErrSyntax},
		{"assign", 6, api.ErrSyntax}, {"assign clerk", 12, api.ErrSyntax}, {"assign clerk by", 15, api.ErrSyntax}, {"assign clerk by hr", 18, api.ErrSyntax},
		{"assign clerk by hr ", 19, api.ErrSyntax}, {"assign clerk by hr #", 20, api.ErrSyntax},
		{"assign by by hr;", 7, api.ErrSyntax}, {"assign 3 by hr;", 7, api.ErrSyntax}, {"assign ; by hr;", 7, api.ErrSyntax}, {"assign not clerk by hr;", 7, api.ErrSyntax},
		{"assign clerk hr;", 13, api.ErrSyntax}, {"assign clerk by all;", 16, api.ErrSyntax}, {"assign clerk by hr hr;", 19, api.ErrSyntax},
		{"assign clerk by hr if;", 21, api.ErrSyntax}, {"assign clerk by hr if not;", 25, api.ErrSyntax}, {"assign clerk by hr if not not clerk;", 26, api.ErrSyntax},
		{"assign clerk by hr if clerk and;", 31, api.ErrSyntax}, {"assign clerk by hr if clerk auditor;", 28, api.ErrSyntax}, {"assign clerk by hr if clerk or auditor;", 28, api.ErrSyntax},
		{"assign clerk by hr if (clerk);", 22, api.ErrSyntax}, {"assign clerk by hr and clerk;", 19, api.ErrSyntax}, {"assign clerk by hr if true;", 22, api.ErrSyntax},
		{"assign clerk by hr on;", 21, api.ErrSyntax}, {"assign clerk by hr on clerk;", 22, api.ErrSyntax}, {"assign clerk by hr on -3;", 22, api.ErrSyntax}, {"assign clerk by hr on all, 3;", 25, api.ErrSyntax},
		{"assign clerk by hr on none-3;", 26, api.ErrSyntax}, {"assign clerk by hr on 3,;", 24, api.ErrSyntax}, {"assign clerk by hr on 3,all;", 24, api.ErrSyntax}, {"assign clerk by hr on 3 4;", 24, api.ErrSyntax},
		{"assign clerk by hr on 3-4-5;", 25, api.ErrSyntax}, {"assign clerk by hr on 3--;", 24, api.ErrSyntax}, {"assign clerk by hr on 3->5;", 23, api.ErrSyntax}, {"assign clerk by hr on 3-all;", 24, api.ErrSyntax}, {"assign clerk by hr on 3-", 24, api.ErrSyntax},
		{"assign clerk by hr on 3 if clerk;", 24, api.ErrSyntax}, {"assign clerk by hr on 3 on 4;", 24, api.ErrSyntax}, {"assign clerk by hr for 3 on 4;", 25, api.ErrSyntax}, {"assign clerk by hr for;", 22, api.ErrSyntax},
		{"assign clerk by hr for all;", 23, api.ErrSyntax}, {"assign clerk by hr for 3 for 4;", 25, api.ErrSyntax}, {"assign clerk by hr for 3,4;", 24, api.ErrSyntax},
		{"revoke clerk by hr if clerk;", 19, api.ErrSyntax}, {"revoke clerk by hr on 3 for 5;", 24, api.ErrSyntax}, {"revoke clerk by hr on all for 5;", 26, api.ErrSyntax},
		{"assign clerk by hr;;", 19, api.ErrSyntax}, {"assign clerk by hr, auditor by hr;", 18, api.ErrSyntax},
		// Names.
		{"assign porter by hr;", 7, api.ErrName}, {"assign clerk by porter;", 16, api.ErrName}, {"assign clerk by hr if porter;", 22, api.ErrName}, {"revoke porter by hr;", 7, api.ErrName}, {"assign clerk by hr if not porter;", 26, api.ErrName},
		{"assign abcdefghijklm by hr;", 7, api.ErrName}, {"assign clerk by abcdefghijklm;", 16, api.ErrName}, {"assign clerk by hr if clerk and abcdefghijklm;", 32, api.ErrName},
		// Kinds of roles.
		{"assign clerk by auditor;", 16, api.ErrType}, {"assign boss by hr;", 7, api.ErrType}, {"revoke boss by hr;", 7, api.ErrType}, {"assign clerk by hr if boss;", 22, api.ErrType}, {"assign clerk by hr if clerk and not hr;", 36, api.ErrType},
		// Roles of the same condition.
		{"assign clerk by hr if clerk and not clerk;", 36, api.ErrExists}, {"assign clerk by hr if not clerk and teller and clerk;", 47, api.ErrExists}, {"assign clerk by hr if not clerk and not clerk;", 40, api.ErrExists},
		{"assign clerk by hr if clerk; assign clerk by hr if clerk and teller and clerk;", 72, api.ErrExists},
		// Numbers.
		{"assign clerk by hr on 30001;", 22, api.ErrRange}, {"assign clerk by hr on 3-30001;", 24, api.ErrRange}, {"assign clerk by hr on 30001-;", 22, api.ErrRange}, {"assign clerk by hr on 999999;", 22, api.ErrRange},
		{"assign clerk by hr on 3-2;", 24, api.ErrRange}, {"assign clerk by hr on 1,9-0;", 26, api.ErrRange}, {"assign clerk by hr on 5-4,30001;", 24, api.ErrRange}, {"revoke clerk by hr on 5-4;", 24, api.ErrRange},
		{"assign clerk by hr for 0;", 23, api.ErrRange}, {"assign clerk by hr for 30001;", 23, api.ErrRange}, {"assign clerk by hr for 999999;", 23, api.ErrRange},
		// The first one from left to right.
		{"assign porter hr", 7, api.ErrName}, {"assign clerk hr by porter;", 13, api.ErrSyntax}, {"assign boss by clerk;", 7, api.ErrType}, {"assign clerk by hr if clerk and clerk on 30001;", 32, api.ErrExists}, {"assign clerk by hr on 30001 4;", 22, api.ErrRange},
		{"assign clerk by hr; assign hr by hr; assign porter by hr;", 27, api.ErrType}, {"assign clerk by hr if porter and porter;", 22, api.ErrName},
	} {
		refused(t, c.s, roles, c.at, c.e)
	}
	refused(t, "assign clerk by hr;", nil, 0, api.ErrArg)
	refused(t, "$", nil, 0, api.ErrArg)
	refused(t, "", nil, 0, api.ErrArg)
	refused(t, "assign clerk by hr;", names.New(), 7, api.ErrName)
	// Which roles are administrative is asked of the set alone.
	if l, at, e := rule.Parse("assign hr by clerk;", roles, bits.Of(1, 99)); e != api.OK || at != 0 || !same(l[0], R{Admin: 1, Target: 3, When: days.All()}) {
		t.Errorf("other administrative roles: %v, error %d at %d", texts(l), e, at)
	}
}

// P23.2: at most MaxRules rules, and MaxSource bytes.
func TestParseLimits(t *testing.T) {
	roles := table(t, few)
	one := "assign clerk by hr;"
	full := strings.Repeat(one, api.MaxRules)
	if l := parsed(t, full+" # no more", roles, bosses); len(l) != api.MaxRules {
		t.Errorf("%d rules", len(l))
	}
	for _, c := range []struct {
		s  string
		at int
		e  api.Errno
	}{
		{full + one, len(full), api.ErrLimit}, {full + "\n\n" + one + one, len(full) + 2, api.ErrLimit}, {full + " revoke porter", len(full) + 1, api.ErrLimit}, {full + "assign", len(full), api.ErrLimit},
		// What begins no rule is no first token of one.
		{full + " clerk", len(full) + 1, api.ErrSyntax}, {full + ";", len(full), api.ErrSyntax},
		{strings.Replace(full, "clerk", "porter", 1) + one, 7, api.ErrName}, {full + one + "$", len(full) + len(one), api.ErrSyntax},
		{full + strings.Repeat(" ", api.MaxSource-len(full)+1), 0, api.ErrLimit}, {strings.Repeat("$", api.MaxSource+1), 0, api.ErrLimit},
	} {
		refused(t, c.s, roles, c.at, c.e)
	}
	if l := parsed(t, full+strings.Repeat(" ", api.MaxSource-len(full)), roles, bosses); len(l) != api.MaxRules {
		t.Errorf("a source of MaxSource bytes: %d rules", len(l))
	}
	// As many days as a source has room for.
	days := strings.Repeat("7,", (api.MaxSource-30)/2) + "7"
	if l := parsed(t, "assign clerk by hr on "+days+";", roles, bosses); !same(l[0], R{Admin: 3, Target: 1, When: on(t, "7")}) {
		t.Errorf("many days: %v", texts(l))
	}
}

// next is the grammar as an automaton: where each kind of token leads from a state. Roles are "role", numbers "number",
// all other words and symbols stand for themselves. A rule ends with "end", at which the next one begins.
func next(state, kind string, revoke bool) string {
	behind := func(states ...string) string { // what follows parts that may be left out
		all := map[string]string{"if": "literal", "on": "when", "for": "length", ";": "end"}
		for _, s := range states {
			if s == kind && (!revoke || s == "on" || s == ";") {
				return all[s]
			}
		}
		return ""
	}
	steps := map[string]string{
		"end assign": "target", "end revoke": "target", "target role": "by", "by by": "admin", "admin role": "head",
		"literal not": "absent", "literal role": "condition", "absent role": "condition", "condition and": "literal",
		"when all": "days", "when none": "days", "when number": "from", "span number": "from", "from -": "to", "to number": "spans", "from ,": "span", "to ,": "span", "spans ,": "span",
		"length number": "tail",
	}
	if to := steps[state+" "+kind]; to != "" {
		return to
	}
	switch state {
	case "head":
		return behind("if", "on", "for", ";")
	case "condition":
		return behind("on", "for", ";")
	case "days", "from", "to", "spans":
		return behind("for", ";")
	case "tail":
		return behind(";")
	}
	return ""
}

// A walk is a source as it is read by the automaton.
type walk struct {
	roles  *names.Table
	admin  S
	state  string
	r      R
	absent bool
	spans  []days.Span
	out    []R
}

// take goes on by a token, and returns its error.
func (w *walk) take(x token.Token) api.Errno {
	kind := x.Text
	isRole := slices.Contains([]string{"target", "admin", "literal", "absent"}, w.state) && x.Kind == token.Word && !slices.Contains(names.Keywords(), x.Text)
	switch {
	case isRole:
		kind = "role"
	case x.Kind == token.Number:
		kind = "number"
	}
	to := next(w.state, kind, w.r.Revoke)
	if to == "" {
		return api.ErrSyntax
	}
	if isRole {
		if e := w.role(x.Text); e != api.OK {
			return e
		}
	}
	if x.Kind == token.Number {
		if e := w.number(x.N); e != api.OK {
			return e
		}
	}
	if w.state == "end" && len(w.out) == api.MaxRules {
		return api.ErrLimit
	}
	switch x.Text {
	case "assign", "revoke":
		w.r, w.spans = R{Revoke: x.Text == "revoke", When: days.All()}, nil
	case "not":
		w.absent = true
	case "none":
		w.r.When = days.Set{}
	case "-":
		w.spans[len(w.spans)-1].To = api.MaxDay
	case ";":
		if len(w.spans) > 0 {
			w.r.When, _ = days.Of(w.spans...)
		}
		w.out = append(w.out, w.r)
	}
	w.state = to
	return api.OK
}

// role takes in a role.
func (w *walk) role(name string) api.Errno {
	n, ok := w.roles.Number(name)
	if !ok {
		return api.ErrName
	}
	if w.admin.Has(n) != (w.state == "admin") {
		return api.ErrType
	}
	switch w.state {
	case "target":
		w.r.Target = n
	case "admin":
		w.r.Admin = n
	default:
		if w.r.If.Yes.Has(n) || w.r.If.No.Has(n) {
			return api.ErrExists
		}
		if w.absent {
			w.r.If.No = w.r.If.No.With(n)
		} else {
			w.r.If.Yes = w.r.If.Yes.With(n)
		}
		w.absent = false
	}
	return api.OK
}

// number takes in a number.
func (w *walk) number(n int) api.Errno {
	least := 0
	switch w.state {
	case "length":
		least = 1
	case "to":
		least = w.spans[len(w.spans)-1].From
	}
	if n < least || n > api.MaxDay {
		return api.ErrRange
	}
	switch w.state {
	case "length":
		w.r.Longest = n
	case "to":
		w.spans[len(w.spans)-1].To = n
	default:
		w.spans = append(w.spans, days.Span{From: n, To: n})
	}
	return api.OK
}

// walked is Parse by the automaton.
func walked(s string, roles *names.Table, admin S) ([]R, int, api.Errno) {
	l, at, e := token.Scan(s)
	if e != api.OK {
		return nil, at, e
	}
	w := walk{roles: roles, admin: admin, state: "end"}
	for _, x := range l {
		if x.Kind == token.End && w.state == "end" {
			return w.out, 0, api.OK
		}
		if x.Kind == token.End {
			return nil, x.At, api.ErrSyntax
		}
		if e := w.take(x); e != api.OK {
			return nil, x.At, e
		}
	}
	panic("no end")
}

// randomTokens returns the tokens of a rule.
func randomTokens(r *rand.Rand) []string {
	regular := func() string { return []string{"clerk", "auditor", "teller"}[r.Intn(3)] }
	day := func() string { return []string{"0", "3", "7", "10", "29999", "30000"}[r.Intn(6)] }
	revoke := r.Intn(3) == 0
	l := []string{"assign", regular(), "by", []string{"hr", "boss"}[r.Intn(2)]}
	if revoke {
		l[0] = "revoke"
	}
	if !revoke && r.Intn(2) == 0 {
		word := "if"
		all := []string{"clerk", "auditor", "teller"}
		r.Shuffle(3, func(i, j int) { all[i], all[j] = all[j], all[i] })
		if r.Intn(15) == 0 {
			all[1+r.Intn(2)] = all[0]
		}
		for _, name := range all[:1+r.Intn(3)] {
			l = append(l, word)
			if r.Intn(2) == 0 {
				l = append(l, "not")
			}
			l = append(l, name)
			word = "and"
		}
	}
	if r.Intn(2) == 0 {
		l = append(l, "on")
		switch r.Intn(5) {
		case 0:
			l = append(l, "all")
		case 1:
			l = append(l, "none")
		default:
			for i := range 1 + r.Intn(4) {
				if i > 0 {
					l = append(l, ",")
				}
				l = append(l, day(), "-", day())
				l = l[:len(l)-r.Intn(3)]
			}
		}
	}
	if !revoke && r.Intn(3) == 0 {
		l = append(l, "for", []string{"1", "30", "30000"}[r.Intn(3)])
	}
	return append(l, ";")
}

// laid returns tokens with blanks and comments between them.
func laid(r *rand.Rand, l []string) string {
	var s strings.Builder
	for _, x := range l {
		s.WriteString(x)
		s.WriteString([]string{" ", " ", "  ", "\n", "\t", "\r\n", " # if\n"}[r.Intn(7)])
	}
	return s.String()
}

// P23.2: random sources, most of them with faults, are read as the automaton reads them.
func TestParseRandom(t *testing.T) {
	r := rand.New(rand.NewSource(232))
	roles := table(t, few)
	words := strings.Fields("assign revoke by if and not on all none for clerk auditor teller hr boss porter abcdefghijklm count true 0 3 7 30000 30001 999999 - , ; -> ( :")
	seen := map[api.Errno]int{}
	for range 60000 {
		var l []string
		for range r.Intn(4) {
			l = append(l, randomTokens(r)...)
		}
		for range r.Intn(3) {
			at := r.Intn(len(l) + 1)
			word := words[r.Intn(len(words))]
			switch {
			case r.Intn(2) == 0 || at == len(l):
				l = slices.Insert(l, at, word)
			case r.Intn(2) == 0:
				l[at] = word
			default:
				l = slices.Delete(l, at, at+1)
			}
		}
		s := laid(r, l)
		want, wantAt, wantE := walked(s, roles, bosses)
		seen[wantE]++
		got, at, e := rule.Parse(s, roles, bosses)
		if at != wantAt || e != wantE || !slices.EqualFunc(got, want, same) {
			t.Fatalf("Parse(%q): %v, error %d at %d, not %v, %d at %d", s, texts(got), e, at, texts(want), wantE, wantAt)
		}
		if e != api.OK {
			continue
		}
		// P23.4: its canonical text has the same rules, and is its own one.
		text := rule.Print(got, roles)
		if again := parsed(t, text, roles, bosses); !slices.EqualFunc(again, got, rule.Equal) || rule.Print(again, roles) != text {
			t.Fatalf("Print of %q: %q", s, text)
		}
		for _, x := range got {
			if e := rule.Check(x, 5, bosses); e != api.OK {
				t.Fatalf("Check of %v: error %d", text, e)
			}
		}
	}
	for _, e := range []api.Errno{api.OK, api.ErrSyntax, api.ErrName, api.ErrType, api.ErrExists, api.ErrRange} {
		if seen[e] < 300 {
			t.Errorf("error %d only %d times", e, seen[e])
		}
	}
}

// printed is the canonical line of a rule, as the chapter describes it.
func printed(r R, name func(int) string) string {
	if r.Revoke {
		s := fmt.Sprintf("revoke %s by %s", name(r.Target), name(r.Admin))
		if r.When.Len() <= api.MaxDay {
			s += " on " + r.When.Text()
		}
		return s + ";\n"
	}
	s := fmt.Sprintf("assign %s by %s", name(r.Target), name(r.Admin))
	var literals []string
	for n := range 100 {
		if r.If.Yes.Has(n) {
			literals = append(literals, name(n))
		}
		if r.If.No.Has(n) {
			literals = append(literals, "not "+name(n))
		}
	}
	if len(literals) > 0 {
		s += " if " + strings.Join(literals, " and ")
	}
	if r.When.Len() <= api.MaxDay {
		s += " on " + r.When.Text()
	}
	if r.Longest != 0 {
		s += fmt.Sprintf(" for %d", r.Longest)
	}
	return s + ";\n"
}

// P23.3, P23.4: random rules, with as many roles as there may be; those that Check accepts are read back.
func TestPrintRandom(t *testing.T) {
	r := rand.New(rand.NewSource(233))
	var all []string
	for i := range api.MaxRoles {
		all = append(all, fmt.Sprintf("r%d", i+1))
	}
	r.Shuffle(len(all), func(i, j int) { all[i], all[j] = all[j], all[i] })
	roles := table(t, strings.Join(all, " "))
	name := func(n int) string { return all[n-1] }
	admin := bits.Of(60, 61, 62, 63)
	whole := 0
	for range 3000 {
		var l []R
		var want strings.Builder
		for range r.Intn(4) {
			x := randomRule(t, r)
			x.Target, x.Admin = 1+r.Intn(59), 60+r.Intn(4)
			x.If = C{}
			for range r.Intn(6) {
				n := 1 + r.Intn(59)
				x.If = C{Yes: x.If.Yes.Without(n), No: x.If.No.With(n)}
				if r.Intn(2) == 0 {
					x.If = C{Yes: x.If.Yes.With(n), No: x.If.No.Without(n)}
				}
			}
			l = append(l, x)
			want.WriteString(printed(x, name))
		}
		s := rule.Print(l, roles)
		if s != want.String() {
			t.Fatalf("Print(%v): %q, not %q", texts(l), s, want.String())
		}
		if slices.ContainsFunc(l, func(x R) bool { return rule.Check(x, api.MaxRoles, admin) != api.OK }) {
			continue
		}
		whole++
		if got := parsed(t, s, roles, admin); !slices.EqualFunc(got, l, rule.Equal) || !slices.EqualFunc(got, l, same) {
			t.Fatalf("Parse(%q): %v", s, texts(got))
		}
	}
	if whole < 500 {
		t.Errorf("only %d lists were read back", whole)
	}
}

// P23.3: what has no text, and what plays no part in one.
func TestPrint(t *testing.T) {
	roles := table(t, few)
	good := R{Admin: 3, Target: 1, When: days.All()}
	line := "assign clerk by hr;\n"
	with := func(change func(*R)) R {
		x := good
		change(&x)
		return x
	}
	for i, c := range []struct {
		l    []R
		want string
	}{
		{nil, ""}, {[]R{good}, line}, {[]R{good, good}, line + line},
		{[]R{good, with(func(x *R) { x.Admin = 0 })}, ""}, {[]R{with(func(x *R) { x.Admin = 6 }), good}, ""}, {[]R{with(func(x *R) { x.Admin = -1 })}, ""}, {[]R{with(func(x *R) { x.Admin = 1 << 40 })}, ""},
		{[]R{with(func(x *R) { x.Target = 0 })}, ""}, {[]R{with(func(x *R) { x.Target = 6 })}, ""}, {[]R{with(func(x *R) { x.Target = -1 })}, ""}, {[]R{with(func(x *R) { x.Target = 5000 })}, ""},
		{[]R{with(func(x *R) { x.If = cubed(t, "1 6") })}, ""}, {[]R{with(func(x *R) { x.If = cubed(t, "!0") })}, ""}, {[]R{with(func(x *R) { x.If = cubed(t, "1 2 !2") })}, ""},
		{[]R{with(func(x *R) { x.Revoke, x.If = true, cubed(t, "1 !1 6") })}, "revoke clerk by hr;\n"}, {[]R{with(func(x *R) { x.Revoke, x.Longest = true, 7 })}, "revoke clerk by hr;\n"},
		{[]R{with(func(x *R) { x.Revoke, x.Target = true, 6 })}, ""}, {[]R{with(func(x *R) { x.Revoke, x.Admin = true, 6 })}, ""},
		{[]R{with(func(x *R) { x.When = days.Set{} })}, "assign clerk by hr on none;\n"}, {[]R{with(func(x *R) { x.When = on(t, "0-29999") })}, "assign clerk by hr on 0-29999;\n"},
		{[]R{with(func(x *R) { x.Longest = 30000 })}, "assign clerk by hr for 30000;\n"},
		{[]R{with(func(x *R) { x.If = cubed(t, "!1 2 !5") })}, "assign clerk by hr if not clerk and auditor and not teller;\n"},
		// Kinds of roles do not matter here.
		{[]R{{Admin: 1, Target: 3, When: days.All()}}, "assign hr by clerk;\n"},
	} {
		if s := rule.Print(c.l, roles); s != c.want {
			t.Errorf("Print %d: %q, not %q", i, s, c.want)
		}
	}
	if s := rule.Print([]R{good}, nil); s != "" {
		t.Errorf("Print without a table: %q", s)
	}
	if s := rule.Print(nil, nil); s != "" {
		t.Errorf("Print of nothing without a table: %q", s)
	}
}

// P23.4: as many rules as there may be, in as few bytes as that takes.
func TestPrintFull(t *testing.T) {
	roles := table(t, few)
	var l []R
	for i := range api.MaxRules {
		l = append(l, R{Revoke: i%3 == 0, Admin: 3 + i%2, Target: 1 + i%2, When: on(t, fmt.Sprintf("%d-%d", i, i+9))})
	}
	s := rule.Print(l, roles)
	if got := parsed(t, s, roles, bosses); !slices.EqualFunc(got, l, rule.Equal) {
		t.Errorf("Parse of %q: %v", s, texts(got))
	}
}

// Rules: arguments are not changed, and results share no memory.
func TestResultsAreNew(t *testing.T) {
	roles := table(t, few)
	s := "assign clerk by hr if teller on 3-7; revoke clerk by hr;"
	a, b := parsed(t, s, roles, bosses), parsed(t, s, roles, bosses)
	clear(a)
	clear(a[:cap(a)])
	if rule.Print(b, roles) != "assign clerk by hr if teller on 3-7;\nrevoke clerk by hr;\n" {
		t.Error("two results of Parse share memory")
	}
	before := slices.Clone(b)
	clear(rule.Usable(b, bosses, 5))
	rule.First(b, Q{Target: 1, Admins: bosses, Member: bits.Of(5), Day: 5, Until: 9})
	clear(rule.Bytes(b))
	if !slices.EqualFunc(b, before, rule.Equal) || cube.Compare(b[0].If, cubed(t, "5")) != 0 {
		t.Error("a rule was changed")
	}
}
