package compile_test

import (
	"fmt"
	"math/rand"
	"strings"
	"testing"

	"arbac/api"
	"arbac/bits"
	"arbac/compile"
	"arbac/grant"
	"arbac/state"
)

// P27.1: the examples of the chapter.
func TestExamples(t *testing.T) {
	s := example(t)
	table := compile.New(s)
	if table.Member(1).Text() != "{1 2}" || table.Effective(1).Text() != "{1 2}" || table.Covering("read", "/a/b").Text() != "{2}" {
		t.Errorf("%s, %s, %s", table.Member(1).Text(), table.Effective(1).Text(), table.Covering("read", "/a/b").Text())
	}
	if user, ok := table.User(1); user != 1 || !ok {
		t.Errorf("User(1) is %d, %v", user, ok)
	}
	check(t, "example", table, s)
	revoked := after(t, s, dismiss(1, 1))
	next, _ := table.Update(revoked)
	for _, x := range []*T{next, compile.New(revoked)} {
		if !x.Member(1).Empty() || !x.Effective(1).Empty() || x.Covering("read", "/a/b").Text() != "{2}" || x.Equal(table) {
			t.Errorf("revoked: %s, %s, %s", x.Member(1).Text(), x.Effective(1).Text(), x.Covering("read", "/a/b").Text())
		}
	}
}

// P27.1: by hand.
func TestByHand(t *testing.T) {
	table := compile.New(larger(t))
	for what, x := range map[string]struct {
		got  bits.Set
		want string
	}{
		"Member(1)": {table.Member(1), "{1 2 3}"}, "Member(2)": {table.Member(2), "{4}"}, "Member(3)": {table.Member(3), "{3 5 6}"}, "Member(4)": {table.Member(4), "{}"}, "Member(0)": {table.Member(0), "{}"},
		"Juniors(1)": {table.Juniors(1), "{1 3}"}, "Juniors(4)": {table.Juniors(4), "{4}"}, "Juniors(6)": {table.Juniors(6), "{5 6}"}, "Juniors(7)": {table.Juniors(7), "{}"}, "Juniors(0)": {table.Juniors(0), "{}"}, "Juniors(63)": {table.Juniors(63), "{}"},
		"Effective(1)": {table.Effective(1), "{2 3}"}, "Effective(2)": {table.Effective(2), "{4}"}, "Effective(3)": {table.Effective(3), "{}"}, "Effective(4)": {table.Effective(4), "{}"},
		"read /a": {table.Covering("read", "/a"), "{3}"}, "read /a/x": {table.Covering("read", "/a/x"), "{3}"}, "read /c": {table.Covering("read", "/c"), "{1}"}, "read /c/x": {table.Covering("read", "/c/x"), "{}"}, "read /": {table.Covering("read", "/"), "{}"},
		"write /a/b": {table.Covering("write", "/a/b"), "{4}"}, "write /a": {table.Covering("write", "/a"), "{}"}, "read a": {table.Covering("read", "a"), "{}"},
		"run /": {table.Covering("run", "/"), "{2 3}"}, "run /a": {table.Covering("run", "/a"), "{2}"}, "run /a/b": {table.Covering("run", "/a/b"), "{2 4}"}, "run /a/b/c/d/e/f/g/h": {table.Covering("run", "/a/b/c/d/e/f/g/h"), "{2 4}"},
		"run /a/b/c/d/e/f/g/h/i": {table.Covering("run", "/a/b/c/d/e/f/g/h/i"), "{}"}, "run ": {table.Covering("run", ""), "{}"}, "by /": {table.Covering("by", "/"), "{}"}, " /": {table.Covering("", "/"), "{}"},
	} {
		if x.got.Text() != x.want {
			t.Errorf("%s is %s, not %s", what, x.got.Text(), x.want)
		}
	}
	for n, want := range map[int]int{0: 0, 1: 1, 2: 2, 3: 3, 4: 0, 64: 0, 65: 0} {
		if user, ok := table.User(n); user != want || ok != (want > 0) {
			t.Errorf("User(%d) is %d, %v", n, user, ok)
		}
	}
	if table.Day() != 3 {
		t.Errorf("day %d", table.Day())
	}
}

// P27.1: tables of random states, of the state at the beginning, and of one with as much as there may be.
func TestNew(t *testing.T) {
	for what, s := range map[string]*S{"example": example(t), "larger": larger(t), "New": state.New(), "zero value": new(S), "full": full(t)} {
		check(t, what, compile.New(s), s)
	}
	r := rand.New(rand.NewSource(271))
	member, effective, covered := 0, 0, 0
	for i := range 200 {
		s := granted(r, random(r, r.Intn(250)), r.Intn(50))
		before := s.Bytes()
		table := compile.New(s)
		check(t, fmt.Sprint("random state ", i), table, s)
		if string(s.Bytes()) != string(before) {
			t.Fatal("New has changed the state")
		}
		for n := range 8 {
			member += table.Member(n).Len()
			effective += table.Effective(n).Len()
		}
		for _, q := range requests {
			covered += table.Covering(q[0], q[1]).Len()
		}
	}
	if member < 500 || effective < 100 || covered < 1000 {
		t.Errorf("only %d member roles, %d effective roles, %d covering roles", member, effective, covered)
	}
	if compile.New(nil) != nil {
		t.Error("a table of a nil state")
	}
}

// P27.1, P1: as much as there may be, by hand, and requests of any length.
func TestFull(t *testing.T) {
	s := full(t)
	table := compile.New(s)
	regular := bits.Below(64).Without(0)
	if !table.Member(256).Equal(regular) || table.Member(255).Text() != "{1}" || !table.Juniors(63).Equal(regular) || !table.Effective(64).Equal(regular) || table.Day() != api.MaxDay {
		t.Errorf("%s, %s, %s, %s", table.Member(256).Text(), table.Member(255).Text(), table.Juniors(63).Text(), table.Effective(64).Text())
	}
	for i := range grant.Max {
		if table.Covering("read", fmt.Sprintf("/a/b%d/c%d", i%40, i)).Text() != "{63}" || !table.Covering("read", fmt.Sprintf("/a/b%d/c%d", (i+1)%40, i)).Empty() {
			t.Fatalf("grant %d", i)
		}
	}
	for _, p := range []string{strings.Repeat("/", 1<<20), strings.Repeat("/a", 1<<20), "/" + strings.Repeat("a", 1<<20), strings.Repeat("\x00", 1<<20)} {
		if !table.Covering("read", p).Empty() || !table.Covering(p, "/a").Empty() || !table.Covering(p, p).Empty() {
			t.Errorf("something covers %q ..", p[:2])
		}
	}
}

// The sentence on nil tables of the chapter.
func TestNil(t *testing.T) {
	var none *T
	for _, table := range []*T{none, new(T)} {
		if table.Day() != 0 || !table.Covering("read", "/").Empty() || !table.Covering("", "").Empty() {
			t.Error("a day, or grants")
		}
		for _, n := range numbers {
			if user, ok := table.User(n); user != 0 || ok || !table.Member(n).Empty() || !table.Juniors(n).Empty() || !table.Effective(n).Empty() {
				t.Errorf("%d has something", n)
			}
		}
	}
	if !none.Equal(nil) || none.Equal(compile.New(state.New())) || compile.New(state.New()).Equal(nil) || none.Equal(new(T)) {
		t.Error("Equal of a nil table")
	}
	if !new(T).Equal(compile.New(state.New())) || !compile.New(state.New()).Equal(new(T)) {
		t.Error("Equal of the zero value")
	}
}
