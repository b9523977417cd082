package meaning_test

import (
	"math"
	"math/rand"
	"slices"
	"testing"

	"arbac/api"
	"arbac/bits"
	"arbac/formula"
	"arbac/hierarchy"
	"arbac/meaning"
	"arbac/membership"
	"arbac/syntax"
)

// K, Q and V are short for constraints, facts and violations.
type (
	K = formula.Constraint
	Q = meaning.Facts
	V = meaning.Violation
)

// links returns the hierarchy with some links, which must be possible.
func links(t *testing.T, l ...[2]int) *hierarchy.Hierarchy {
	t.Helper()
	h := hierarchy.New()
	for _, x := range l {
		next, e := h.Link(x[0], x[1])
		if e != api.OK {
			t.Fatalf("Link(%v): %d", x, e)
		}
		h = next
	}
	return h
}

// book returns the book with some assignments, which must be valid.
func book(t *testing.T, l ...membership.Entry) *membership.Book {
	t.Helper()
	b := membership.New()
	for _, x := range l {
		next, e := b.Assign(x.User, x.Role, x.Until)
		if e != api.OK {
			t.Fatalf("Assign(%v): %d", x, e)
		}
		b = next
	}
	return b
}

// randomFacts returns facts about some users and the roles 1 to 6 and 63, around the day 10.
func randomFacts(r *rand.Rand) Q {
	roles := []int{1, 2, 3, 4, 5, 6, 63}
	h := hierarchy.New()
	for range r.Intn(14) {
		if next, e := h.Link(roles[r.Intn(7)], roles[r.Intn(7)]); e == api.OK {
			h = next
		}
	}
	f := Q{Links: h, Members: membership.New(), Users: r.Intn(9), Day: 5 + r.Intn(10)}
	for range r.Intn(16) {
		f.Members, _ = f.Members.Assign(1+r.Intn(9), roles[r.Intn(7)], r.Intn(20))
	}
	return f
}

// leads reports whether a path of links leads from a role down to another one.
func leads(l [][2]int, from, to int) bool {
	return from == to || slices.ContainsFunc(l, func(x [2]int) bool { return x[0] == from && leads(l, x[1], to) })
}

// member returns the member roles of a user, by definition.
func member(f Q, user int) bits.Set {
	var s bits.Set
	if f.Links == nil || f.Members == nil || user < 1 || user > min(f.Users, 256) || f.Day < 0 || f.Day > 30000 {
		return s
	}
	for _, x := range f.Members.Entries() {
		for r := 1; r <= 63; r++ {
			if x.User == user && x.Until >= f.Day && leads(f.Links.Links(), x.Role, r) {
				s = s.With(r)
			}
		}
	}
	return s
}

// counts returns Counts, by definition.
func counts(f Q) []int {
	l := make([]int, 64)
	for user := range 257 {
		for _, r := range member(f, user).List() {
			l[r]++
		}
	}
	return l
}

// violated returns Violated, by definition.
func violated(l []K, f Q) []V {
	var out []V
	for i, c := range l {
		switch {
		case formula.CheckConstraint(c) != api.OK:
		case c.Kind == syntax.Static:
			for user := 1; user <= min(f.Users, 256); user++ {
				if valueOf(c.Formula, member(f, user), nil) == 0 {
					out = append(out, V{Constraint: i, User: user})
				}
			}
		case c.Kind == syntax.Users && valueOf(c.Formula, bits.Set{}, counts(f)) == 0:
			out = append(out, V{Constraint: i})
		}
	}
	return out
}

// wantMembers checks Member and Counts.
func wantMembers(t *testing.T, f Q) {
	t.Helper()
	for _, user := range []int{math.MinInt, -1, 0, 1, 2, 3, 4, 5, 6, 7, 8, 9, 10, 255, 256, 257, 258, math.MaxInt} {
		if got, want := meaning.Member(f, user), member(f, user); !got.Equal(want) {
			t.Fatalf("Member of %d on day %d: %s, not %s", user, f.Day, got.Text(), want.Text())
		}
	}
	got := meaning.Counts(f)
	if !slices.Equal(got, counts(f)) {
		t.Fatalf("Counts on day %d: %v, not %v", f.Day, got, counts(f))
	}
	clear(got)
	if !slices.Equal(meaning.Counts(f), counts(f)) {
		t.Fatal("a caller has changed the counts")
	}
}

// P20.2: random facts.
func TestMembersRandom(t *testing.T) {
	r := rand.New(rand.NewSource(2002))
	held := 0
	for range 1500 {
		f := randomFacts(r)
		wantMembers(t, f)
		held += member(f, 1).Len()
	}
	if held < 1000 {
		t.Errorf("user 1 has only %d roles", held)
	}
}

// P20.2: users and days at the limits and beyond them, and parts that are nil.
func TestMembersEdges(t *testing.T) {
	b := book(t, membership.Entry{User: 1, Role: 1, Until: 0}, membership.Entry{User: 1, Role: 2, Until: 30000}, membership.Entry{User: 256, Role: 63, Until: 30000}, membership.Entry{User: 255, Role: 2, Until: 7}, membership.Entry{User: 10, Role: 1, Until: 7})
	h := links(t, [2]int{63, 2}, [2]int{2, 5})
	for _, users := range []int{math.MinInt, -1, 0, 1, 2, 255, 256, 257, 1000, math.MaxInt} {
		for _, day := range []int{math.MinInt, -1, 0, 1, 7, 8, 30000, 30001, math.MaxInt} {
			for _, f := range []Q{{h, b, users, day}, {nil, b, users, day}, {h, nil, users, day}, {nil, nil, users, day}, {&hierarchy.Hierarchy{}, &membership.Book{}, users, day}, {hierarchy.New(), b, users, day}} {
				wantMembers(t, f)
			}
		}
	}
	if l := meaning.Counts(Q{Links: h, Members: b, Users: 256, Day: 7}); len(l) != 64 || l[0] != 0 || l[1] != 1 || l[2] != 3 || l[5] != 3 || l[63] != 1 {
		t.Errorf("Counts: %v", l)
	}
	if l := meaning.Counts(Q{}); !slices.Equal(l, make([]int, 64)) {
		t.Errorf("Counts of no facts: %v", l)
	}
}

// example returns the facts of the second example of the chapter, on a day.
func example(t *testing.T, day int) Q {
	b := book(t, membership.Entry{User: 1, Role: 1, Until: 5}, membership.Entry{User: 2, Role: 1, Until: 9}, membership.Entry{User: 2, Role: 3, Until: 9})
	return Q{Links: links(t, [2]int{3, 2}), Members: b, Users: 2, Day: day}
}

// sod returns the constraint that excludes two roles.
func sod(enforce bool) K {
	return K{Enforce: enforce, Kind: syntax.Static, Name: "sod", Formula: op(syntax.Le, count(1, 2), number(1))}
}

// P20.2 to P20.5: the example of the chapter.
func TestExample(t *testing.T) {
	f := example(t, 4)
	if s := meaning.Member(f, 2); s.Text() != "{1 2 3}" {
		t.Errorf("Member of 2: %s", s.Text())
	}
	if l := meaning.Counts(f); l[1] != 2 || l[2] != 1 || l[3] != 1 {
		t.Errorf("Counts: %v", l)
	}
	if l := meaning.Counts(example(t, 6)); l[1] != 1 {
		t.Errorf("Counts on day 6: %v", l)
	}
	if l := meaning.Violators(sod(false), f); !slices.Equal(l, []int{2}) {
		t.Errorf("Violators: %v", l)
	}
	if l := meaning.Violated([]K{{}, sod(false)}, f); !slices.Equal(l, []V{{1, 2}}) {
		t.Errorf("Violated: %v", l)
	}
	if l := meaning.New([]K{sod(false), sod(true)}, example(t, 10), f); !slices.Equal(l, []V{{1, 2}}) {
		t.Errorf("New: %v", l)
	}
}

// randomConstraint returns a constraint of some kind; now and then one that is refused.
func randomConstraint(r *rand.Rand) K {
	c := K{Enforce: r.Intn(2) == 0, Kind: syntax.Kind(1 + r.Intn(3)), Name: "a"}
	kinds := []syntax.Kind{syntax.Static}
	if c.Kind == syntax.Users {
		kinds[0] = syntax.Users
	}
	c.Formula = random(r, formula.Bool, kinds, 1+r.Intn(5))
	switch r.Intn(12) {
	case 0:
		c.Name = []string{"", "by", "abcdefghijklm"}[r.Intn(3)]
	case 1:
		c.Kind = syntax.Kind(r.Intn(5))
	case 2:
		c.Formula = faults()[r.Intn(9)]
	}
	return c
}

// randomConstraints returns some of them.
func randomConstraints(r *rand.Rand) []K {
	var l []K
	for range r.Intn(6) {
		l = append(l, randomConstraint(r))
	}
	return l
}

// P20.3, P20.4, P20.5: random constraints and facts.
func TestViolatedRandom(t *testing.T) {
	r := rand.New(rand.NewSource(2003))
	static, whole, fresh, gone := 0, 0, 0, 0
	for range 3000 {
		l, before, after := randomConstraints(r), randomFacts(r), randomFacts(r)
		old, want := violated(l, before), violated(l, after)
		if got := meaning.Violated(l, after); !slices.Equal(got, want) {
			t.Fatalf("Violated of %v: %v, not %v", l, got, want)
		}
		for i, c := range l {
			var users []int
			for _, v := range want {
				if v.Constraint == i && c.Kind == syntax.Static {
					users = append(users, v.User)
				}
			}
			if got := meaning.Violators(c, after); !slices.Equal(got, users) {
				t.Fatalf("Violators of %v: %v, not %v", c, got, users)
			}
			static += len(users)
		}
		var further []V
		for _, v := range want {
			if v.User == 0 {
				whole++
			}
			if l[v.Constraint].Enforce && !slices.Contains(old, v) {
				further = append(further, v)
			}
		}
		if got := meaning.New(l, before, after); !slices.Equal(got, further) {
			t.Fatalf("New of %v: %v, not %v", l, got, further)
		}
		fresh += len(further)
		gone += len(want) - len(further)
		if got := meaning.New(l, after, after); len(got) > 0 {
			t.Fatalf("New of %v, where nothing has changed: %v", l, got)
		}
	}
	if static < 3000 || whole < 500 || fresh < 500 || gone < 1000 {
		t.Errorf("violations: %d by a user, %d by all, %d new, %d not", static, whole, fresh, gone)
	}
}

// P20.3, P20.4: constraints of each kind, facts that lack something, and as many users as there may be.
func TestViolatedEdges(t *testing.T) {
	everyone := func(n int) []int {
		var l []int
		for i := range n {
			l = append(l, i+1)
		}
		return l
	}
	need := K{Kind: syntax.Static, Name: "need", Formula: role(2)}
	few := K{Kind: syntax.Users, Name: "few", Formula: op(syntax.Le, members(1), number(1))}
	never := K{Kind: syntax.Dynamic, Name: "never", Formula: no}
	nobody := K{Enforce: true, Kind: syntax.Users, Name: "nobody", Formula: no}
	l := []K{need, few, never, nobody, {}, {Kind: 4, Name: "a", Formula: no}, {Kind: syntax.Static, Name: "by", Formula: no}, {Kind: syntax.Users, Formula: no}, {Kind: syntax.Users, Name: "a", Formula: number(0)}, need}
	for _, x := range []struct {
		f     Q
		needy []int
		many  bool
	}{
		{example(t, 4), []int{1}, true}, {example(t, 6), []int{1}, false}, {example(t, 10), []int{1, 2}, false}, {example(t, -1), []int{1, 2}, false}, {Q{}, nil, false}, {Q{Users: -5}, nil, false},
		{Q{Users: 3}, []int{1, 2, 3}, false}, {Q{Users: 256}, everyone(256), false}, {Q{Users: 257}, everyone(256), false}, {Q{Users: math.MaxInt}, everyone(256), false},
		{Q{Links: hierarchy.New(), Members: example(t, 4).Members, Users: 2, Day: 4}, []int{1, 2}, true}, {Q{Members: example(t, 4).Members, Users: 2, Day: 4}, []int{1, 2}, false},
	} {
		if got := meaning.Violators(need, x.f); !slices.Equal(got, x.needy) {
			t.Errorf("Violators: %v, not %v", got, x.needy)
		}
		var want []V
		for _, user := range x.needy {
			want = append(want, V{0, user})
		}
		if x.many {
			want = append(want, V{1, 0})
		}
		want = append(want, V{3, 0})
		for _, user := range x.needy {
			want = append(want, V{9, user})
		}
		if got := meaning.Violated(l, x.f); !slices.Equal(got, want) {
			t.Errorf("Violated: %v, not %v", got, want)
		}
		for _, c := range l[1:9] {
			if got := meaning.Violators(c, x.f); len(got) > 0 {
				t.Errorf("Violators of %v: %v", c, got)
			}
		}
	}
	if l := meaning.Violated(nil, example(t, 4)); len(l) > 0 {
		t.Errorf("no constraints are violated: %v", l)
	}
}

// P20.3, P20.4: constraints that are refused are violated by nobody.
func TestViolatedFaults(t *testing.T) {
	f := example(t, 4)
	for i, x := range faults() {
		for k := range syntax.Kind(5) {
			c := K{Enforce: true, Kind: k, Name: "a", Formula: x}
			if formula.CheckConstraint(c) == api.OK {
				t.Fatalf("formula %d has no fault", i)
			}
			if l := meaning.Violators(c, f); len(l) > 0 {
				t.Errorf("Violators of formula %d: %v", i, l)
			}
			if l := meaning.Violated([]K{c, c}, f); len(l) > 0 {
				t.Errorf("Violated of formula %d: %v", i, l)
			}
			if l := meaning.New([]K{c}, Q{}, f); len(l) > 0 {
				t.Errorf("New of formula %d: %v", i, l)
			}
		}
	}
	// A formula of the other kind, and one of both.
	mixed := op(syntax.And, role(9), op(syntax.Eq, members(1), number(9)))
	for _, c := range []K{{Kind: syntax.Static, Name: "a", Formula: op(syntax.Eq, members(1), number(9))}, {Kind: syntax.Users, Name: "a", Formula: role(9)}, {Kind: syntax.Static, Name: "a", Formula: mixed}, {Kind: syntax.Users, Name: "a", Formula: mixed}} {
		if v, l := meaning.Violated([]K{c}, f), meaning.Violators(c, f); len(v) > 0 || len(l) > 0 {
			t.Errorf("%v is violated: %v, %v", c, v, l)
		}
	}
}

// P20.5: what is violated before is not new, neither is what is only declared.
func TestNew(t *testing.T) {
	l := []K{sod(true), sod(false), {Enforce: true, Kind: syntax.Users, Name: "few", Formula: op(syntax.Le, members(1), number(1))}, {Enforce: true, Kind: syntax.Static, Name: "need", Formula: role(1)}, {Enforce: true, Kind: syntax.Dynamic, Name: "never", Formula: no}}
	for _, x := range []struct {
		before, after Q
		want          []V
	}{
		{example(t, 4), example(t, 4), nil}, {example(t, 10), example(t, 4), []V{{0, 2}, {2, 0}}}, {example(t, 4), example(t, 10), []V{{3, 1}, {3, 2}}}, {example(t, 4), example(t, 6), []V{{3, 1}}},
		{example(t, 6), example(t, 4), []V{{2, 0}}}, {example(t, 6), example(t, 10), []V{{3, 2}}}, {Q{}, example(t, 4), []V{{0, 2}, {2, 0}}}, {example(t, 4), Q{}, nil}, {Q{}, Q{Users: 1}, []V{{3, 1}}}, {Q{}, Q{}, nil},
	} {
		if got := meaning.New(l, x.before, x.after); !slices.Equal(got, x.want) {
			t.Errorf("New: %v, not %v", got, x.want)
		}
	}
}

// P20.6: neither assignments that have ended nor links that follow from others play a part.
func TestOnlyActive(t *testing.T) {
	r := rand.New(rand.NewSource(2006))
	ended, redundant := 0, 0
	for range 1500 {
		f := randomFacts(r)
		g := f
		g.Members = f.Members.Expire(f.Day)
		ended += f.Members.Len() - g.Members.Len()
		for _, x := range f.Links.Redundant() {
			g.Links, _ = g.Links.Unlink(x[0], x[1])
			redundant++
		}
		l := randomConstraints(r)
		for user := range 10 {
			if !meaning.Member(f, user).Equal(meaning.Member(g, user)) {
				t.Fatalf("user %d has others than %s", user, meaning.Member(f, user).Text())
			}
		}
		if !slices.Equal(meaning.Counts(f), meaning.Counts(g)) || !slices.Equal(meaning.Violated(l, f), meaning.Violated(l, g)) || len(meaning.New(l, f, g)) > 0 {
			t.Fatalf("%v: %v and %v", l, meaning.Violated(l, f), meaning.Violated(l, g))
		}
	}
	if ended < 1000 || redundant < 500 {
		t.Errorf("%d assignments have ended, %d links are redundant", ended, redundant)
	}
}
