package session_test

import (
	"maps"
	"math/rand"
	"slices"
	"testing"

	"arbac/api"
	"arbac/bits"
	"arbac/hierarchy"
	"arbac/session"
)

// A B is a book, and an S is a session.
type (
	B = session.Book
	S = session.Session
)

// A model is the open sessions by their numbers.
type model map[int]S

// numbers returns the numbers of the open sessions, ascending.
func (m model) numbers() []int { return slices.Sorted(maps.Keys(m)) }

// sessions returns the open sessions, by number.
func (m model) sessions() []S {
	var l []S
	for _, n := range m.numbers() {
		l = append(l, m[n])
	}
	return l
}

// same reports whether two sessions are equal.
func same(a, b S) bool {
	return a.Number == b.Number && a.User == b.User && a.Active.Equal(b.Active)
}

// check compares a book with a model.
func check(t *testing.T, what any, b *B, m model) {
	t.Helper()
	if b == nil || b.Len() != len(m) || !slices.EqualFunc(b.List(), m.sessions(), same) {
		t.Fatalf("%v: %v, not %v", what, b.List(), m.sessions())
	}
	for n := -1; n <= api.MaxSessions+1; n++ {
		want, open := m[n]
		if s, ok := b.Get(n); ok != open || !same(s, want) {
			t.Fatalf("%v: Get(%d) is %v, %v", what, n, s, ok)
		}
	}
	for user := range 8 {
		l := slices.DeleteFunc(m.numbers(), func(n int) bool { return m[n].User != user })
		if got := b.Of(user); !slices.Equal(got, l) {
			t.Fatalf("%v: Of(%d) is %v, not %v", what, user, got, l)
		}
	}
}

// want checks the error of a change that is refused, and that there is no book.
func want(t *testing.T, what string, b *B, e, wanted api.Errno) {
	t.Helper()
	if b != nil || e != wanted {
		t.Errorf("%s: %v, error %d, not %d", what, b.List(), e, wanted)
	}
}

// of returns the book with the sessions of a list, which have ascending numbers.
func of(t *testing.T, l ...S) *B {
	t.Helper()
	b := session.New()
	var e api.Errno
	for n := 1; n <= api.MaxSessions; n++ {
		s := S{User: 1}
		if i := slices.IndexFunc(l, func(s S) bool { return s.Number == n }); i >= 0 {
			s = l[i]
		}
		if b, _, e = b.Open(s.User); e != api.OK {
			t.Fatal(e)
		}
		for r := range s.Active.All() {
			if b, e = b.Activate(n, r); e != api.OK {
				t.Fatal(e)
			}
		}
	}
	for n := 1; n <= api.MaxSessions; n++ {
		if slices.ContainsFunc(l, func(s S) bool { return s.Number == n }) {
			continue
		}
		if b, e = b.Close(n); e != api.OK {
			t.Fatal(e)
		}
	}
	return b
}

// P22.1: the example of the chapter.
func TestNumbers(t *testing.T) {
	b := session.New()
	check(t, "New", b, model{})
	var n int
	var e api.Errno
	for _, x := range []struct{ close, user, want int }{{0, 4, 1}, {0, 4, 2}, {1, 7, 1}, {0, 256, 3}, {2, 1, 2}, {0, 1, 4}} {
		if x.close > 0 {
			if b, e = b.Close(x.close); e != api.OK {
				t.Fatal(e)
			}
		}
		if b, n, e = b.Open(x.user); e != api.OK || n != x.want {
			t.Fatalf("Open(%d): session %d, error %d", x.user, n, e)
		}
	}
	check(t, "opened", b, model{1: {Number: 1, User: 7}, 2: {Number: 2, User: 1}, 3: {Number: 3, User: 256}, 4: {Number: 4, User: 1}})
	if l := b.Of(1); !slices.Equal(l, []int{2, 4}) {
		t.Errorf("Of(1): %v", l)
	}
	if l := b.Of(256); !slices.Equal(l, []int{3}) {
		t.Errorf("Of(256): %v", l)
	}
	// The least number is free again, whatever was active in its session.
	if b, e = b.Activate(2, 5); e != api.OK {
		t.Fatal(e)
	}
	if b, e = b.Close(2); e != api.OK {
		t.Fatal(e)
	}
	b, n, e = b.Open(3)
	if s, ok := b.Get(2); e != api.OK || n != 2 || !ok || !same(s, S{Number: 2, User: 3}) {
		t.Errorf("session %d: %v, error %d", n, s, e)
	}
}

// P22.1: as many sessions as there may be.
func TestFull(t *testing.T) {
	b, m := session.New(), model{}
	for i := 1; i <= api.MaxSessions; i++ {
		next, n, e := b.Open(5)
		if e != api.OK || n != i {
			t.Fatalf("session %d: %d, error %d", i, n, e)
		}
		b, m[i] = next, S{Number: i, User: 5}
	}
	check(t, "full", b, m)
	for user, e := range map[int]api.Errno{5: api.ErrFull, 256: api.ErrFull, 0: api.ErrArg, 257: api.ErrArg} {
		next, n, got := b.Open(user)
		want(t, "Open", next, got, e)
		if n != 0 {
			t.Errorf("Open(%d) returns session %d", user, n)
		}
	}
	for _, i := range []int{64, 63, 1} {
		next, e := b.Close(i)
		if e != api.OK {
			t.Fatal(e)
		}
		if _, n, e := next.Open(6); e != api.OK || n != i {
			t.Errorf("Open after Close(%d): session %d, error %d", i, n, e)
		}
	}
	check(t, "full", b, m)
}

// P22.1: the errors, and the first of several.
func TestErrors(t *testing.T) {
	b := of(t, S{2, 9, bits.Of(3, 63)}, S{64, 9, bits.Of()})
	for _, user := range []int{-1, 0, 257, 1 << 40} {
		next, n, e := b.Open(user)
		if want(t, "Open", next, e, api.ErrArg); n != 0 {
			t.Errorf("Open(%d) returns session %d", user, n)
		}
	}
	for _, n := range []int{-1, 0, 1, 3, 63, 65, 1 << 40} {
		next, e := b.Close(n)
		want(t, "Close", next, e, api.ErrNone)
		for _, role := range []int{1, 3, 63} {
			next, e := b.Activate(n, role)
			want(t, "Activate", next, e, api.ErrNone)
			next, e = b.Deactivate(n, role)
			want(t, "Deactivate", next, e, api.ErrNone)
		}
	}
	for _, n := range []int{0, 1, 2, 64, 65} {
		for _, role := range []int{-1, 0, 64, 4095, 1 << 40} {
			next, e := b.Activate(n, role)
			want(t, "Activate", next, e, api.ErrArg)
			next, e = b.Deactivate(n, role)
			want(t, "Deactivate", next, e, api.ErrArg)
		}
	}
	for _, role := range []int{3, 63} {
		next, e := b.Activate(2, role)
		want(t, "Activate", next, e, api.ErrExists)
		next, e = b.Deactivate(64, role)
		want(t, "Deactivate", next, e, api.ErrNone)
	}
	next, e := b.Deactivate(2, 4)
	want(t, "Deactivate", next, e, api.ErrNone)
	check(t, "errors", b, model{2: {2, 9, bits.Of(3, 63)}, 64: {64, 9, bits.Of()}})
}

// P22.1: a nil book.
func TestNil(t *testing.T) {
	var b *B
	next, n, e := b.Open(1)
	want(t, "Open", next, e, api.ErrArg)
	next, e = b.Close(1)
	want(t, "Close", next, e, api.ErrArg)
	next, e = b.Activate(1, 1)
	want(t, "Activate", next, e, api.ErrArg)
	next, e = b.Deactivate(1, 1)
	want(t, "Deactivate", next, e, api.ErrArg)
	s, ok := b.Get(1)
	if n != 0 || ok || !same(s, S{}) || len(b.List()) > 0 || len(b.Of(1)) > 0 || b.Len() != 0 || len(b.Bytes()) > 0 || !b.Effective(1, bits.Of(1), hierarchy.New()).Empty() {
		t.Error("a nil book has something")
	}
}

// step makes a random change of a book and its model, which is nil if the change is refused.
func step(r *rand.Rand, b *B, m model) (*B, model, api.Errno) {
	next := maps.Clone(m)
	n, role := 1+r.Intn(7), 1+r.Intn(6)
	s, open := m[n]
	switch r.Intn(6) {
	case 0, 1:
		least := 1
		for m[least].Number > 0 {
			least++
		}
		user := 1 + r.Intn(7)
		got, number, e := b.Open(user)
		next[least] = S{Number: least, User: user}
		if number != least {
			return nil, nil, e
		}
		return got, next, e
	case 2:
		got, e := b.Close(n)
		delete(next, n)
		if !open {
			next = nil
		}
		return got, next, e
	case 3:
		got, e := b.Deactivate(n, role)
		next[n] = S{n, s.User, s.Active.Without(role)}
		if !s.Active.Has(role) {
			next = nil
		}
		return got, next, e
	}
	got, e := b.Activate(n, role)
	next[n] = S{n, s.User, s.Active.With(role)}
	if !open || s.Active.Has(role) {
		next = nil
	}
	return got, next, e
}

// P22.1: random changes; a book is never changed, neither by later ones nor by whoever changes a result.
func TestRandomChanges(t *testing.T) {
	r := rand.New(rand.NewSource(221))
	done := 0
	for range 60 {
		books, models := []*B{session.New()}, []model{{}}
		for range 60 {
			i := r.Intn(len(books))
			if r.Intn(3) > 0 {
				i = len(books) - 1
			}
			b, m, e := step(r, books[i], models[i])
			if m == nil {
				if b != nil || e != api.ErrNone && e != api.ErrExists {
					t.Fatalf("a change is not refused: %v, error %d", b.List(), e)
				}
				continue
			}
			if e != api.OK {
				t.Fatalf("a change is refused: error %d", e)
			}
			done++
			books, models = append(books, b), append(models, m)
			clear(b.List())
			for user := range 8 {
				clear(b.Of(user))
			}
		}
		for i, b := range books {
			check(t, i, b, models[i])
		}
	}
	if done < 1000 {
		t.Errorf("only %d changes", done)
	}
}

// linked returns the hierarchy with some links.
func linked(t *testing.T, l ...[2]int) *hierarchy.Hierarchy {
	t.Helper()
	h := hierarchy.New()
	for _, p := range l {
		var e api.Errno
		if h, e = h.Link(p[0], p[1]); e != api.OK {
			t.Fatal(e)
		}
	}
	return h
}

// P22.2: the example of the chapter, and others.
func TestEffective(t *testing.T) {
	h := linked(t, [2]int{2, 3}, [2]int{3, 4}, [2]int{63, 62})
	b := of(t, S{1, 4, bits.Of(2, 5)}, S{3, 4, bits.Of(3, 63)}, S{4, 4, bits.Of()})
	for _, x := range []struct {
		n            int
		member, want bits.Set
	}{
		{1, bits.Of(2, 3, 4), bits.Of(2, 3, 4)}, {1, bits.Of(2), bits.Of(2, 3, 4)}, {1, bits.Of(3, 4), bits.Of()}, {1, bits.Of(5, 6), bits.Of(5)}, {1, bits.Of(2, 5), bits.Of(2, 3, 4, 5)}, {1, bits.Of(), bits.Of()},
		{1, bits.Of(0, 1, 64, 4095), bits.Of()}, {1, bits.Below(4096), bits.Of(2, 3, 4, 5)},
		{3, bits.Of(3, 4), bits.Of(3, 4)}, {3, bits.Of(63, 1), bits.Of(62, 63)}, {4, bits.Of(2, 3), bits.Of()},
		{2, bits.Of(2, 3), bits.Of()}, {0, bits.Of(2), bits.Of()}, {-1, bits.Of(2), bits.Of()}, {65, bits.Of(2), bits.Of()},
	} {
		if got := b.Effective(x.n, x.member, h); !got.Equal(x.want) {
			t.Errorf("session %d, %s: %s, not %s", x.n, x.member.Text(), got.Text(), x.want.Text())
		}
		if got := b.Effective(x.n, x.member, nil); !got.Empty() {
			t.Errorf("session %d, %s, without a hierarchy: %s", x.n, x.member.Text(), got.Text())
		}
	}
	flat := linked(t)
	if got := b.Effective(1, bits.Of(2, 3), flat); !got.Equal(bits.Of(2)) {
		t.Errorf("without links: %s", got.Text())
	}
	// The example of the chapter has no role 4.
	short := linked(t, [2]int{2, 3})
	if got := b.Effective(1, bits.Of(2, 3), short); !got.Equal(bits.Of(2, 3)) {
		t.Errorf("example: %s", got.Text())
	}
	if got := b.Effective(1, bits.Of(3), short); !got.Empty() {
		t.Errorf("example, revoked: %s", got.Text())
	}
}

// randomSet returns some of the numbers from 1 to most.
func randomSet(r *rand.Rand, most int) bits.Set {
	var s bits.Set
	for i := 1; i <= most; i++ {
		if r.Intn(3) == 0 {
			s = s.With(i)
		}
	}
	return s
}

// P22.2: by definition; what is effective is within the closure of the member roles, and grows with them.
func TestEffectiveRandom(t *testing.T) {
	r := rand.New(rand.NewSource(222))
	more := 0
	for range 300 {
		h := hierarchy.New()
		for range r.Intn(12) {
			if next, e := h.Link(1+r.Intn(10), 1+r.Intn(10)); e == api.OK {
				h = next
			}
		}
		active, member, further := randomSet(r, 10), randomSet(r, 10), randomSet(r, 10)
		b := of(t, S{1 + r.Intn(64), 3, active})
		n := b.Of(3)[0]
		var want bits.Set
		for i := range 11 {
			for j := range 11 {
				if active.Has(i) && member.Has(i) && h.Implies(i, j) {
					want = want.With(j)
				}
			}
		}
		got, grown := b.Effective(n, member, h), b.Effective(n, member.Or(further), h)
		if !got.Equal(want) || !got.Within(h.Closure(member)) || !got.Within(grown) {
			t.Fatalf("%s of %s: %s, not %s; then %s", active.Text(), member.Text(), got.Text(), want.Text(), grown.Text())
		}
		if got.Len() < grown.Len() {
			more++
		}
	}
	if more < 50 {
		t.Errorf("only %d results have grown", more)
	}
}

// P22.4
func TestEqual(t *testing.T) {
	var none *B
	books := []*B{
		none, session.New(), of(t, S{1, 4, bits.Of()}), of(t, S{2, 4, bits.Of()}), of(t, S{1, 5, bits.Of()}), of(t, S{1, 4, bits.Of(2)}), of(t, S{1, 4, bits.Of(3)}), of(t, S{1, 4, bits.Of(2, 3)}),
		of(t, S{1, 4, bits.Of()}, S{2, 4, bits.Of()}), of(t, S{1, 4, bits.Of()}, S{3, 4, bits.Of()}), of(t, S{1, 4, bits.Of()}, S{64, 4, bits.Of(63)}), of(t, S{1, 4, bits.Of()}, S{64, 4, bits.Of(62)}),
	}
	for i, b := range books {
		for j, o := range books {
			if b.Equal(o) != (i == j) {
				t.Errorf("books %d and %d: %v", i, j, b.Equal(o))
			}
		}
	}
	// The way to a book does not matter, and the zero value has no sessions.
	b := session.New()
	for _, user := range []int{9, 4, 9} {
		b, _, _ = b.Open(user)
	}
	b, _ = b.Activate(2, 7)
	b, _ = b.Activate(2, 3)
	b, _ = b.Deactivate(2, 7)
	b, _ = b.Close(3)
	b, _ = b.Close(1)
	if o := of(t, S{2, 4, bits.Of(3)}); !b.Equal(o) || !o.Equal(b) || !new(B).Equal(session.New()) || new(B).Equal(nil) {
		t.Error("equal books are not equal")
	}
	check(t, "zero value", new(B), model{})
}
