package compile_test

import (
	"fmt"
	"math/rand"
	"testing"

	"arbac/api"
	"arbac/change"
	"arbac/compile"
	"arbac/state"
)

// update updates a table to a state, and checks the result.
func update(t *testing.T, what string, table *T, s *S) *T {
	t.Helper()
	next, rows := table.Update(s)
	if rows < 0 {
		t.Fatalf("%s: %d rows", what, rows)
	}
	check(t, what, next, s)
	if fresh := compile.New(s); !next.Equal(fresh) || !fresh.Equal(next) {
		t.Fatalf("%s: not the table of the state", what)
	}
	same(t, what, next, s)
	return next
}

// same checks that nothing is computed for a state that equals the one of a table.
func same(t *testing.T, what string, table *T, s *S) {
	t.Helper()
	for _, o := range []*S{s, read(t, s)} {
		again, rows := table.Update(o)
		if rows != 0 || !again.Equal(table) || !table.Equal(again) {
			t.Fatalf("%s: %d rows for an equal state", what, rows)
		}
	}
}

// P27.2: long lists of changes. No update changes a table.
func TestUpdateStepByStep(t *testing.T) {
	r := rand.New(rand.NewSource(272))
	accepted := map[change.Kind]int{}
	for i := range 15 {
		s := state.New()
		table := compile.New(s)
		tables, states := []*T{table}, []*S{s}
		for range 150 {
			c := someChange(r, s)
			next, e := change.Apply(s, c)
			if e != api.OK {
				continue
			}
			accepted[c.Kind]++
			s, table = next, update(t, change.Text(c), table, next)
			tables, states = append(tables, table), append(states, s)
		}
		for k := range tables {
			check(t, fmt.Sprint("table ", k, " of list ", i), tables[k], states[k])
		}
	}
	for k := change.AddUser; k <= change.Day; k++ {
		if n := accepted[k]; n < 5 && k != change.Assign && k != change.Revoke {
			t.Errorf("kind %d: only %d changes", k, n)
		}
	}
}

// P27.2: states that have nothing to do with each other.
func TestUpdateAnyState(t *testing.T) {
	r := rand.New(rand.NewSource(273))
	all := []*S{state.New(), new(S), example(t), larger(t)}
	for range 8 {
		all = append(all, random(r, r.Intn(300)))
	}
	update(t, "much less", update(t, "much more", compile.New(all[3]), full(t)), all[3])
	for i, a := range all {
		table := compile.New(a)
		for j, b := range all {
			back := update(t, fmt.Sprint("there ", i, " ", j), table, b)
			if back = update(t, fmt.Sprint("and back ", i, " ", j), back, a); !back.Equal(table) {
				t.Fatalf("back from state %d, another table of state %d", j, i)
			}
		}
		check(t, "before", table, a)
	}
}

// P27.2: each change of a state by itself, there and back.
func TestUpdateByHand(t *testing.T) {
	s := larger(t)
	table := compile.New(s)
	for _, l := range [][]C{
		{addUser("dan")}, {addRole("more")}, {addAdmin("more")}, {addRole("more"), link(7, 1)}, {link(4, 2)}, {unlink(2, 3)}, {unlink(6, 5)}, {unlink(1, 3), link(1, 2)},
		{grants(1, "read /*")}, {grants(3, "read /a")}, {grants(4, "read /a/*")}, {grants(3, "sell /a/b/c/x")}, {withdraw(3, "read /a/*")}, {withdraw(2, "run /*")}, {withdraw(4, "run /a/b/*")}, {withdraw(3, "run /")}, {withdraw(1, "read /c"), grants(1, "read /c/*")},
		{withdraw(3, "read /a/*"), withdraw(4, "write /a/b"), withdraw(1, "read /c"), withdraw(2, "run /*"), withdraw(4, "run /a/b/*"), withdraw(3, "run /")},
		{appoint(2, 2, 5)}, {appoint(2, 6, 5)}, {appoint(1, 2, 3)}, {dismiss(1, 2)}, {dismiss(1, 1), dismiss(1, 2)}, {dismiss(2, 4)}, {dismiss(3, 6)},
		{day(4)}, {day(8)}, {day(9)}, {day(30000)}, {setRules("")}, {setConstraints("")},
		{open(3)}, {closes(1)}, {closes(1), open(3)}, {closes(3), open(1), activate(3, 3), activate(3, 2)}, {activate(1, 1)}, {activate(3, 3)}, {deactivate(1, 2)}, {deactivate(1, 2), deactivate(1, 3)}, {deactivate(2, 4)},
		{appoint(1, 2, 31)}, {day(3)},
	} {
		what := fmt.Sprint(l)
		next := after(t, s, l...)
		there := update(t, what, table, next)
		if back := update(t, what, there, s); !back.Equal(table) {
			t.Errorf("%s: another table after going back", what)
		}
		if there.Equal(table) != alike(there, table) {
			t.Errorf("%s: Equal is %v", what, there.Equal(table))
		}
	}
	check(t, "before", table, s)
}

// P27.2: nil states and nil tables.
func TestUpdateNil(t *testing.T) {
	var none *T
	for _, table := range []*T{none, new(T), compile.New(larger(t))} {
		if next, rows := table.Update(nil); next != nil || rows != 0 {
			t.Errorf("Update of a nil state: %v, %d", next, rows)
		}
	}
	for _, s := range []*S{state.New(), new(S), example(t), larger(t), full(t)} {
		update(t, "a nil table", none, s)
		update(t, "the zero value", new(T), s)
		// As for a table of the state at the beginning.
		_, rows := none.Update(s)
		if _, want := compile.New(state.New()).Update(s); rows != want {
			t.Errorf("%d rows, not %d", rows, want)
		}
	}
	same(t, "a nil table", compile.New(state.New()), state.New())
	if next, rows := none.Update(state.New()); rows != 0 || !next.Equal(compile.New(state.New())) {
		t.Errorf("a nil table: %d rows for the state at the beginning", rows)
	}
}
