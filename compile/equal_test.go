package compile_test

import (
	"math/rand"
	"slices"
	"testing"

	"arbac/change"
	"arbac/compile"
	"arbac/permission"
	"arbac/state"
)

// P27.3: tables that differ in some answer, each from all others.
func TestEqualDiffers(t *testing.T) {
	s := larger(t)
	l := []*T{nil, compile.New(state.New()), compile.New(s)}
	for _, changes := range [][]C{
		{day(4)}, {addRole("more")}, {addRole("more"), addAdmin("many")}, {link(4, 2)}, {unlink(6, 5)},
		{appoint(2, 2, 5)}, {appoint(2, 6, 5)}, {dismiss(1, 2)}, {appoint(3, 4, 5)},
		{open(3)}, {open(2)}, {open(3), closes(3)}, {closes(1)}, {closes(3)}, {closes(3), open(1)}, {closes(3), open(2)}, {activate(1, 1)}, {activate(3, 3)}, {deactivate(1, 2)},
		{grants(1, "read /*")}, {grants(1, "read /")}, {grants(1, "read /c/*")}, {grants(1, "read /c/d")}, {grants(2, "read /c")}, {grants(1, "write /c")}, {grants(1, "read /d")}, {grants(1, "read /d/*")},
		{grants(3, "run /*")}, {grants(3, "run /a/a/a/a/a/a/a/a")}, {grants(3, "run /a/a/a/a/a/a/a/*")}, {withdraw(1, "read /c")}, {withdraw(3, "run /")}, {withdraw(4, "run /a/b/*")},
	} {
		l = append(l, compile.New(after(t, s, changes...)))
	}
	for i, a := range l {
		for j, b := range l {
			if a.Equal(b) != (i == j) {
				t.Errorf("Equal of tables %d and %d is %v", i, j, i != j)
			}
		}
	}
}

// P27.3: different states whose tables answer every question alike.
func TestEqualAlike(t *testing.T) {
	s := larger(t)
	table := compile.New(s)
	for _, l := range [][]C{
		{addUser("dan")}, {addUser("dan"), addUser("eve")}, {setRules("")}, {setConstraints("")}, {appoint(1, 1, 31)}, {appoint(1, 2, 3)}, {appoint(3, 5, 9)},
		{grants(3, "read /a")}, {grants(3, "read /a/b")}, {grants(3, "read /a/b/*")}, {grants(3, "read /a/b/c/d/e/f/g/h")}, {grants(2, "run /a/b/c")}, {grants(2, "run /")}, {grants(4, "run /a/b")},
		{addUser("dan"), grants(2, "run /a/b/c"), grants(3, "read /a"), setRules("")},
	} {
		o := after(t, s, l...)
		if o.Equal(s) {
			t.Fatalf("%v: the same state", l)
		}
		updated, _ := table.Update(o)
		for _, next := range []*T{compile.New(o), updated} {
			if !next.Equal(table) || !table.Equal(next) || !alike(next, table) {
				t.Errorf("%v: not alike", l)
			}
		}
	}
	more := after(t, s, addRole("x"), link(7, 1))
	for what, pair := range map[string][2]*S{
		"other links, the same juniors":                   {more, after(t, more, link(7, 3))},
		"a deep grant, and the same for the object alone": {after(t, s, grants(1, "sell /x/*")), after(t, s, grants(1, "sell /x/*"), grants(1, "sell /x"))},
		"another kind of a role":                          {after(t, s, addRole("x")), after(t, s, addAdmin("x"))},
		"other names":                                     {after(t, s, addRole("x")), after(t, s, addRole("y"))},
		"an assignment that has ended":                    {after(t, s, appoint(2, 2, 3), day(4)), after(t, s, day(4))},
		"an active role that is no member role":           {after(t, s, dismiss(2, 4)), after(t, s, deactivate(2, 4), dismiss(2, 4))},
		"an active role that another one implies":         {after(t, s, closes(1), open(1), activate(1, 1)), after(t, s, closes(1), open(1), activate(1, 1), activate(1, 3))},
	} {
		a, b := compile.New(pair[0]), compile.New(pair[1])
		if pair[0].Equal(pair[1]) || !a.Equal(b) || !b.Equal(a) || !alike(a, b) {
			t.Errorf("%s: not alike", what)
		}
	}
}

// normal returns the state in which no grant is left that another one of the same role implies.
func normal(t *testing.T, s *S) *S {
	t.Helper()
	p := s.Parts()
	for role := 1; role <= s.Roles(); role++ {
		for _, x := range p.Grants.Of(role) {
			if !slices.Contains(permission.Normal(p.Grants.Of(role)), x) {
				s = after(t, s, C{Kind: change.Withdraw, Role: role, Permission: x})
			}
		}
	}
	return s
}

// P27.3: the tables of equal states are equal, those of other states exactly if they answer alike.
func TestEqualRandom(t *testing.T) {
	r := rand.New(rand.NewSource(274))
	seen := map[bool]int{}
	for range 300 {
		a := granted(r, random(r, r.Intn(100)), r.Intn(100))
		x := compile.New(a)
		for _, b := range []*S{granted(r, a, 1+r.Intn(3)), normal(t, a), read(t, a)} {
			y := compile.New(b)
			want := alike(x, y)
			if x.Equal(y) != want || y.Equal(x) != want || a.Equal(b) && !want {
				t.Fatalf("Equal is %v: %v and %v", x.Equal(y), a.Parts().Grants.Entries(), b.Parts().Grants.Entries())
			}
			if !a.Equal(b) {
				seen[want]++
			}
		}
	}
	if seen[true] < 50 || seen[false] < 50 {
		t.Errorf("pairs that are alike, or not: %v", seen)
	}
}
