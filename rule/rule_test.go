package rule_test

import (
	"math"
	"math/rand"
	"slices"
	"strings"
	"testing"

	"arbac/api"
	"arbac/bits"
	"arbac/cube"
	"arbac/days"
	"arbac/names"
	"arbac/rule"
)

// R, C, S and Q are short for rules, cubes, sets and questions.
type (
	R = rule.Rule
	C = cube.Cube
	S = bits.Set
	Q = rule.Question
)

// on returns the set of days with a text.
func on(t *testing.T, text string) days.Set {
	t.Helper()
	s, e := days.Parse(text)
	if e != api.OK {
		t.Fatalf("days %q: error %d", text, e)
	}
	return s
}

// cubed returns the cube with a text.
func cubed(t *testing.T, text string) C {
	t.Helper()
	c, e := cube.Parse(text)
	if e != api.OK {
		t.Fatalf("cube %q: error %d", text, e)
	}
	return c
}

// table returns a table of names, which are separated by blanks.
func table(t *testing.T, text string) *names.Table {
	t.Helper()
	n, e := names.Of(strings.Fields(text), api.MaxUsers)
	if e != api.OK {
		t.Fatalf("names %q: error %d", text, e)
	}
	return n
}

// text is what a rule says, for messages.
func text(r R) []any {
	return []any{r.Revoke, r.Admin, r.Target, r.If.Text(), r.When.Text(), r.Longest}
}

// texts is what rules say.
func texts(l []R) []any {
	var out []any
	for _, r := range l {
		out = append(out, text(r))
	}
	return out
}

// same reports whether two rules have the same fields: cubes and sets of days have a text each.
func same(a, b R) bool {
	return a.Revoke == b.Revoke && a.Admin == b.Admin && a.Target == b.Target && a.If.Text() == b.If.Text() &&
		a.When.Text() == b.When.Text() && a.Longest == b.Longest
}

// P23.1: each error, and the first of several. The roles are 1 to 5, of which 4 and 5 are administrative.
func TestCheck(t *testing.T) {
	admin := bits.Of(4, 5)
	all := days.All()
	for _, c := range []struct {
		r     R
		roles int
		want  api.Errno
	}{
		{R{Admin: 4, Target: 1, When: all}, 5, api.OK},
		{R{Admin: 5, Target: 3, If: cubed(t, "1 !2 !3"), When: all, Longest: 30}, 5, api.OK},
		{R{Revoke: true, Admin: 4, Target: 3, When: all}, 5, api.OK},
		{R{Revoke: true, Admin: 4, Target: 3}, 5, api.OK},
		{R{Admin: 4, Target: 1, If: cubed(t, "1"), Longest: 1}, 4, api.OK},
		{R{Admin: 4, Target: 1, Longest: api.MaxDay}, 63, api.OK},

		{R{Admin: 4, Target: 1}, -1, api.ErrArg},
		{R{Admin: 4, Target: 1}, 64, api.ErrArg},
		{R{Admin: 4, Target: 1}, math.MinInt, api.ErrArg},
		{R{Admin: 4, Target: 1}, math.MaxInt, api.ErrArg},
		{R{Revoke: true, Admin: 99, Target: 4, If: cubed(t, "1 !1"), Longest: -1}, 64, api.ErrArg},

		{R{Admin: 4, Target: 1}, 0, api.ErrNone},
		{R{Admin: 4, Target: 1}, 3, api.ErrNone},
		{R{Admin: 0, Target: 1}, 5, api.ErrNone},
		{R{Admin: -4, Target: 1}, 5, api.ErrNone},
		{R{Admin: 6, Target: 1}, 5, api.ErrNone},
		{R{Admin: 4, Target: 0}, 5, api.ErrNone},
		{R{Admin: 4, Target: 6}, 5, api.ErrNone},
		{R{Admin: 4, Target: math.MaxInt}, 5, api.ErrNone},
		{R{Admin: 4, Target: 1, If: cubed(t, "6")}, 5, api.ErrNone},
		{R{Admin: 4, Target: 1, If: cubed(t, "1 !6")}, 5, api.ErrNone},
		{R{Admin: 4, Target: 1, If: cubed(t, "0 1")}, 5, api.ErrNone},
		{R{Admin: 4, Target: 1, If: cubed(t, "!4095")}, 63, api.ErrNone},
		{R{Admin: 1, Target: 4, If: cubed(t, "4 6 !6"), Longest: -1}, 5, api.ErrNone},
		{R{Revoke: true, Admin: 4, Target: 6, If: cubed(t, "1"), Longest: -1}, 5, api.ErrNone},
		{R{Revoke: true, Admin: 4, Target: 1, If: cubed(t, "6")}, 5, api.ErrNone},

		{R{Admin: 1, Target: 2}, 5, api.ErrType},
		{R{Admin: 4, Target: 5}, 5, api.ErrType},
		{R{Admin: 4, Target: 4}, 5, api.ErrType},
		{R{Admin: 4, Target: 1, If: cubed(t, "5")}, 5, api.ErrType},
		{R{Admin: 4, Target: 1, If: cubed(t, "1 !5")}, 5, api.ErrType},
		{R{Revoke: true, Admin: 1, Target: 2}, 5, api.ErrType},
		{R{Revoke: true, Admin: 4, Target: 1, If: cubed(t, "4"), Longest: -1}, 5, api.ErrType},
		{R{Admin: 4, Target: 1, If: cubed(t, "4 !4"), Longest: -1}, 5, api.ErrType},

		{R{Admin: 4, Target: 1, If: cubed(t, "2 !2")}, 5, api.ErrForm},
		{R{Admin: 4, Target: 1, If: cubed(t, "1 2 !2"), Longest: -1}, 5, api.ErrForm},
		{R{Revoke: true, Admin: 4, Target: 1, If: cubed(t, "2")}, 5, api.ErrForm},
		{R{Revoke: true, Admin: 4, Target: 1, If: cubed(t, "!2")}, 5, api.ErrForm},
		{R{Revoke: true, Admin: 4, Target: 1, Longest: 5}, 5, api.ErrForm},
		{R{Revoke: true, Admin: 4, Target: 1, Longest: -5}, 5, api.ErrForm},
		{R{Revoke: true, Admin: 4, Target: 1, Longest: 30001}, 5, api.ErrForm},

		{R{Admin: 4, Target: 1, Longest: -1}, 5, api.ErrRange},
		{R{Admin: 4, Target: 1, Longest: 30001}, 5, api.ErrRange},
		{R{Admin: 4, Target: 1, If: cubed(t, "2"), Longest: math.MinInt}, 5, api.ErrRange},
	} {
		if e := rule.Check(c.r, c.roles, admin); e != c.want {
			t.Errorf("Check(%v, %d): error %d, not %d", text(c.r), c.roles, e, c.want)
		}
	}
	// Which roles are administrative is asked of the set alone.
	if e := rule.Check(R{Admin: 1, Target: 2}, 2, bits.Of(1, 60, 4000)); e != api.OK {
		t.Errorf("administrative roles that are not registered: error %d", e)
	}
	if e := rule.Check(R{Admin: 1, Target: 2}, 2, S{}); e != api.ErrType {
		t.Errorf("no administrative roles: error %d", e)
	}
}

// randomCube returns a cube with some of the roles from least to most, mostly one that is not empty.
func randomCube(r *rand.Rand, least, most int) C {
	var c C
	for n := least; n <= most; n++ {
		k := r.Intn(40)
		if k < 10 || k == 39 {
			c.Yes = c.Yes.With(n)
		}
		if k > 29 {
			c.No = c.No.With(n)
		}
	}
	return c
}

// randomRule returns a rule, often one with several faults.
func randomRule(t *testing.T, r *rand.Rand) R {
	when := []string{"all", "none", "3-7,10", "0", "30000", "5-", "0-2,4,6-8,100-200,29999"}
	return R{
		Revoke:  r.Intn(3) == 0,
		Admin:   r.Intn(8) - 1,
		Target:  r.Intn(8) - 1,
		If:      randomCube(r, r.Intn(2), 6),
		When:    on(t, when[r.Intn(len(when))]),
		Longest: []int{0, 0, 0, 1, 7, 30000, -1, 30001}[r.Intn(8)],
	}
}

// checked is Check by its definition.
func checked(r R, roles int, admin S) api.Errno {
	all := append(append([]int{r.Admin, r.Target}, r.If.Yes.List()...), r.If.No.List()...)
	for _, n := range all {
		if n < 1 || n > roles {
			return api.ErrNone
		}
	}
	for i, n := range all {
		if admin.Has(n) != (i == 0) {
			return api.ErrType
		}
	}
	for _, n := range r.If.Yes.List() {
		if r.If.No.Has(n) {
			return api.ErrForm
		}
	}
	if r.Revoke && (len(all) > 2 || r.Longest != 0) {
		return api.ErrForm
	}
	if r.Longest < 0 || r.Longest > 30000 {
		return api.ErrRange
	}
	return api.OK
}

// P23.1: random rules.
func TestCheckRandom(t *testing.T) {
	r := rand.New(rand.NewSource(231))
	seen := map[api.Errno]int{}
	for range 60000 {
		x, roles := randomRule(t, r), r.Intn(8)
		admin := bits.Of(r.Intn(8), r.Intn(8))
		want := checked(x, roles, admin)
		seen[want]++
		if e := rule.Check(x, roles, admin); e != want {
			t.Fatalf("Check(%v, %d, %s): error %d, not %d", text(x), roles, admin.Text(), e, want)
		}
	}
	for _, e := range []api.Errno{api.OK, api.ErrNone, api.ErrType, api.ErrForm, api.ErrRange} {
		if seen[e] < 40 {
			t.Errorf("error %d only %d times", e, seen[e])
		}
	}
}

// P23.1
func TestEqual(t *testing.T) {
	l := []R{
		{},
		{Revoke: true}, {Admin: 1}, {Admin: -1}, {Target: 1}, {If: cubed(t, "1")}, {If: cubed(t, "!1")}, {If: cubed(t, "1 !1")}, {If: cubed(t, "1 2")},
		{When: days.All()}, {When: on(t, "1")}, {When: on(t, "1-2")}, {Longest: 1}, {Longest: -1},
		{Admin: 3, Target: 2, If: cubed(t, "1 !2"), When: on(t, "3-7,10"), Longest: 30},
		{Revoke: true, Admin: 3, Target: 2, If: cubed(t, "1 !2"), When: on(t, "3-7,10"), Longest: 30},
		{Admin: 2, Target: 3, If: cubed(t, "1 !2"), When: on(t, "3-7,10"), Longest: 30},
	}
	for i, a := range l {
		for j, b := range l {
			if rule.Equal(a, b) != (i == j) {
				t.Errorf("Equal(%v, %v)", text(a), text(b))
			}
		}
	}
	// The same sets, made in another way.
	a := l[14]
	a.If = C{Yes: bits.Of(1, 4000).Without(4000), No: bits.Below(3).Without(0).Without(1)}
	a.When = on(t, "3-10").Minus(on(t, "8-9"))
	if !rule.Equal(a, l[14]) || !rule.Equal(l[14], a) {
		t.Error("Equal of sets that were made in another way")
	}
}

// P23.5
func TestUsable(t *testing.T) {
	l := []R{
		{Admin: 4, When: on(t, "3-7,10")},
		{Admin: 5, When: days.All()},
		{Admin: 4, When: days.Set{}},
		{Admin: 4, When: on(t, "0"), Revoke: true, Longest: 9},
		{Admin: 0, When: days.All()},
		{Admin: -1, When: days.All()},
		{Admin: 4, When: on(t, "10-"), If: cubed(t, "1 !1")},
	}
	for _, c := range []struct {
		admins S
		day    int
		want   []int
	}{
		{bits.Of(4), 7, []int{0}},
		{bits.Of(4), 8, nil},
		{bits.Of(4), 10, []int{0, 6}},
		{bits.Of(4, 5), 10, []int{0, 1, 6}},
		{bits.Of(4, 5), 0, []int{1, 3}},
		{bits.Of(5, 6), 30000, []int{1}},
		{bits.Of(0, 4), 30000, []int{4, 6}},
		{S{}, 10, nil},
		{bits.Of(4, 5), -1, nil},
		{bits.Of(4, 5), 30001, nil},
		{bits.Below(4096), 5, []int{0, 1, 4}},
	} {
		if got := rule.Usable(l, c.admins, c.day); !slices.Equal(got, c.want) {
			t.Errorf("Usable(%s, %d): %v, not %v", c.admins.Text(), c.day, got, c.want)
		}
	}
	if len(rule.Usable(nil, bits.Of(4), 7)) != 0 {
		t.Error("Usable of no rules")
	}
}

// P23.6: the example of the chapter, and the edges.
func TestPermits(t *testing.T) {
	monthly := R{Admin: 3, Target: 2, If: cubed(t, "1 !2"), When: on(t, "3-7,10"), Longest: 30}
	for _, c := range []struct {
		member     S
		day, until int
		want       bool
	}{
		{bits.Of(1), 7, 36, true}, {bits.Of(1), 7, 37, false}, {bits.Of(1), 8, 30, false}, {bits.Of(1), 8, 8, false},
		{bits.Of(1), 7, 7, true}, {bits.Of(1), 7, 6, false}, {bits.Of(1), 3, 32, true}, {bits.Of(1), 3, 33, false}, {bits.Of(1), 10, 39, true},
		{bits.Of(1), 2, 5, false}, {bits.Of(1), 9, 12, false}, {bits.Of(1), -1, 5, false}, {bits.Of(1), 7, -1, false},
		{bits.Of(1, 3, 60), 7, 36, true}, {bits.Of(1, 2), 7, 36, false}, {bits.Of(2), 7, 36, false}, {S{}, 7, 36, false},
		{bits.Of(1), 7, math.MaxInt, false}, {bits.Of(1), 7, math.MinInt, false}, {bits.Of(1), math.MinInt, math.MaxInt, false}, {bits.Of(1), math.MaxInt, math.MinInt, false},
	} {
		if got := rule.Permits(monthly, c.member, c.day, c.until); got != c.want {
			t.Errorf("Permits(%s, %d, %d): %v", c.member.Text(), c.day, c.until, got)
		}
	}
	anyTime := R{When: days.All()}
	revoke := R{Revoke: true, When: days.All()}
	for _, c := range [][2]int{{0, 0}, {0, 30000}, {30000, 30000}, {0, 30001}, {30000, 30001}, {1, 0}, {-1, 0}, {-1, -1}, {30001, 30001}} {
		want := c[0] >= 0 && c[0] <= c[1] && c[1] <= 30000
		if got := rule.Permits(anyTime, S{}, c[0], c[1]); got != want {
			t.Errorf("Permits of any time, %v: %v", c, got)
		}
		if rule.Permits(revoke, S{}, c[0], c[1]) {
			t.Errorf("Permits of a revoke rule, %v", c)
		}
	}
	// Neither the administrative role nor the target is looked at, and lengths below 0 permit nothing.
	for _, x := range []R{{Admin: -5, Target: 99, When: days.All(), Longest: 30000}, {Admin: 1, Target: 1, When: days.All(), Longest: 1}} {
		if !rule.Permits(x, S{}, 5, 5) {
			t.Errorf("%v does not permit one day", text(x))
		}
	}
	if rule.Permits(R{When: days.All(), Longest: -1}, S{}, 5, 5) || rule.Permits(R{When: days.All(), Longest: math.MinInt}, S{}, 0, 0) {
		t.Error("a rule with a length below 0 permits something")
	}
	if rule.Permits(R{When: days.All(), If: cubed(t, "1 !1")}, bits.Of(1), 5, 5) || rule.Permits(R{When: days.Set{}}, S{}, 5, 5) {
		t.Error("an empty condition, or no days, permit something")
	}
}

// permitted is Permits by its definition.
func permitted(r R, member S, day, until int) bool {
	if r.Revoke || !r.When.Has(day) || until > 30000 {
		return false
	}
	for n := range 100 {
		if r.If.Yes.Has(n) && !member.Has(n) || r.If.No.Has(n) && member.Has(n) {
			return false
		}
	}
	length := 0
	for d := day; d <= until; d++ {
		length++
	}
	return length > 0 && (r.Longest == 0 || length <= r.Longest)
}

// P23.5 to P23.7: random rules and questions, by definition.
func TestFirst(t *testing.T) {
	r := rand.New(rand.NewSource(237))
	found, none := 0, 0
	for range 20000 {
		l := make([]R, r.Intn(12))
		for i := range l {
			l[i] = randomRule(t, r)
			l[i].Target = 1 + r.Intn(3)
			l[i].If = randomCube(r, 1+r.Intn(6), 4)
		}
		q := Q{
			Revoke: r.Intn(3) == 0, Target: 1 + r.Intn(3), Admins: bits.Of(r.Intn(7), r.Intn(7), r.Intn(7), r.Intn(7), r.Intn(7)),
			Member: bits.Of(r.Intn(5), r.Intn(5)), Day: []int{-1, 0, 3, 5, 8, 10, 29999, 30000, 30001}[r.Intn(9)],
		}
		q.Until = q.Day + []int{-1, 0, 0, 1, 5, 6, 7, 8}[r.Intn(8)]
		want, ok := 0, false
		var usable []int
		for i, x := range l {
			if !q.Admins.Has(x.Admin) || !x.When.Has(q.Day) {
				continue
			}
			usable = append(usable, i)
			if !ok && x.Target == q.Target && (q.Revoke && x.Revoke || !q.Revoke && permitted(x, q.Member, q.Day, q.Until)) {
				want, ok = i, true
			}
		}
		if got := rule.Usable(l, q.Admins, q.Day); !slices.Equal(got, usable) {
			t.Fatalf("Usable(%v, %s, %d): %v, not %v", texts(l), q.Admins.Text(), q.Day, got, usable)
		}
		for _, x := range l {
			if got := rule.Permits(x, q.Member, q.Day, q.Until); got != permitted(x, q.Member, q.Day, q.Until) {
				t.Fatalf("Permits(%v, %s, %d, %d): %v", text(x), q.Member.Text(), q.Day, q.Until, got)
			}
		}
		if got, is := rule.First(l, q); got != want || is != ok {
			t.Fatalf("First(%v, %v): %d, %v, not %d, %v", texts(l), q, got, is, want, ok)
		}
		if ok {
			found++
		} else {
			none++
		}
	}
	if found < 1000 || none < 1000 {
		t.Errorf("%d rules found, %d not", found, none)
	}
}

// P23.7: a few questions by hand.
func TestFirstByHand(t *testing.T) {
	l := []R{
		{Admin: 4, Target: 1, If: cubed(t, "2"), When: days.All(), Longest: 5},
		{Revoke: true, Admin: 5, Target: 1, When: days.All()},
		{Admin: 5, Target: 2, When: days.All()},
		{Admin: 5, Target: 1, When: on(t, "7-")},
		{Revoke: true, Admin: 4, Target: 1, When: on(t, "9")},
		{Admin: 4, Target: 1, When: days.All(), Longest: 2},
	}
	for i, c := range []struct {
		q    Q
		want int
		ok   bool
	}{
		{Q{Target: 1, Admins: bits.Of(4, 5), Member: bits.Of(2), Day: 7, Until: 11}, 0, true},
		{Q{Target: 1, Admins: bits.Of(4, 5), Member: bits.Of(2), Day: 7, Until: 12}, 3, true},
		{Q{Target: 1, Admins: bits.Of(4, 5), Member: bits.Of(3), Day: 7, Until: 8}, 3, true},
		{Q{Target: 1, Admins: bits.Of(4, 5), Member: bits.Of(3), Day: 6, Until: 7}, 5, true},
		{Q{Target: 1, Admins: bits.Of(4, 5), Member: bits.Of(3), Day: 6, Until: 8}, 0, false},
		{Q{Target: 2, Admins: bits.Of(4, 5), Day: 0, Until: 30000}, 2, true},
		{Q{Target: 2, Admins: bits.Of(4), Day: 0, Until: 30000}, 0, false},
		{Q{Target: 3, Admins: bits.Of(4, 5), Day: 7, Until: 7}, 0, false},
		{Q{Revoke: true, Target: 1, Admins: bits.Of(4, 5), Day: 9}, 1, true},
		{Q{Revoke: true, Target: 1, Admins: bits.Of(4), Day: 9, Until: -7}, 4, true},
		{Q{Revoke: true, Target: 1, Admins: bits.Of(4), Day: 8}, 0, false},
		{Q{Revoke: true, Target: 2, Admins: bits.Of(4, 5), Day: 9}, 0, false},
		{Q{Revoke: true, Target: 1, Day: 9}, 0, false},
	} {
		if got, ok := rule.First(l, c.q); got != c.want || ok != c.ok {
			t.Errorf("question %d: %d, %v, not %d, %v", i, got, ok, c.want, c.ok)
		}
	}
	if n, ok := rule.First(nil, Q{}); n != 0 || ok {
		t.Errorf("First of no rules: %d, %v", n, ok)
	}
}
