package membership_test

import (
	"bytes"
	"maps"
	"math"
	"math/rand"
	"slices"
	"testing"

	"arbac/api"
	"arbac/bits"
	"arbac/membership"
)

// E is short for tables of assignments.
type E = membership.Entry

// noUsers, noRoles and noDays are numbers that are none of the kind.
var (
	noUsers = []int{math.MinInt, -1, 0, 257, 258, 4096, math.MaxInt}
	noRoles = []int{math.MinInt, -1, 0, 64, 65, 256, 4096, math.MaxInt}
	noDays  = []int{math.MinInt, -30000, -2, -1, 30001, 30002, math.MaxInt}
)

// model has the last day of each assignment, by user and role.
type model map[[2]int]int

// entries returns the assignments of a model, in order.
func (m model) entries() []E {
	var l []E
	for user := 1; user <= 256; user++ {
		for role := 1; role <= 63; role++ {
			if until, ok := m[[2]int{user, role}]; ok {
				l = append(l, E{User: user, Role: role, Until: until})
			}
		}
	}
	return l
}

// from returns the model without the assignments that end before a day.
func (m model) from(day int) model {
	out := model{}
	for k, until := range m {
		if until >= day {
			out[k] = until
		}
	}
	return out
}

// of returns the book with some assignments, which must be valid.
func of(t *testing.T, l ...E) *membership.Book {
	t.Helper()
	b := membership.New()
	for _, x := range l {
		next, e := b.Assign(x.User, x.Role, x.Until)
		if e != api.OK || next == nil {
			t.Fatalf("Assign(%v): %v", x, e)
		}
		b = next
	}
	return b
}

// check checks that a book has the assignments of a model, by every function that tells of them.
func check(t *testing.T, what string, b *membership.Book, m model) {
	t.Helper()
	want := m.entries()
	if b == nil || !slices.Equal(b.Entries(), want) || b.Len() != len(want) {
		t.Fatalf("%s: Len %d, Entries %v, not %v", what, b.Len(), b.Entries(), want)
	}
	asked := append([]int{0, 1, 29999, 30000}, noDays...)
	for _, x := range want[:min(len(want), 5)] {
		asked = append(asked, x.Until-1, x.Until, x.Until+1)
	}
	for _, day := range asked {
		roles, users := map[int]bits.Set{}, map[int][]int{}
		for _, x := range want {
			if day >= 0 && day <= 30000 && day <= x.Until {
				roles[x.User] = roles[x.User].With(x.Role)
				users[x.Role] = append(users[x.Role], x.User)
			}
		}
		for user := range 258 {
			if s := b.On(user, day); !s.Equal(roles[user]) {
				t.Fatalf("%s: %v: On(%d, %d): %s, not %s", what, want, user, day, s.Text(), roles[user].Text())
			}
		}
		for role := range 65 {
			if l := b.Users(role, day); !slices.Equal(l, users[role]) {
				t.Fatalf("%s: %v: Users(%d, %d): %v, not %v", what, want, role, day, l, users[role])
			}
		}
	}
}

// checkUntil checks the last days of a book.
func checkUntil(t *testing.T, what string, b *membership.Book, m model) {
	t.Helper()
	for user := -1; user <= 258; user++ {
		for role := -1; role <= 65; role++ {
			want, given := m[[2]int{user, role}]
			if until, ok := b.Until(user, role); until != want || ok != given {
				t.Fatalf("%s: Until(%d, %d): %d, %v, not %d, %v", what, user, role, until, ok, want, given)
			}
		}
	}
}

// lists returns the assignments of books of many shapes: none, at the limits, random ones.
func lists() [][]E {
	out := [][]E{
		nil, {{1, 1, 0}}, {{1, 1, 30000}}, {{256, 63, 0}}, {{256, 63, 30000}, {1, 1, 0}, {256, 1, 9}, {1, 63, 300}},
		{{1, 2, 300}}, {{2, 5, 10}, {2, 3, 7}}, {{3, 4, 7}, {2, 4, 7}, {1, 4, 6}, {4, 4, 8}},
	}
	r := rand.New(rand.NewSource(12))
	for _, n := range []int{5, 40, 400} {
		for _, most := range []int{6, 63} {
			m := model{}
			for range n {
				m[[2]int{1 + r.Intn(4*most), 1 + r.Intn(most)}] = []int{r.Intn(12), r.Intn(30001), 30000}[r.Intn(3)]
			}
			l := m.entries()
			r.Shuffle(len(l), func(i, j int) { l[i], l[j] = l[j], l[i] })
			out = append(out, l)
		}
	}
	return out
}

// modelOf returns the model of a list.
func modelOf(l []E) model {
	m := model{}
	for _, x := range l {
		m[[2]int{x.User, x.Role}] = x.Until
	}
	return m
}

// P12.1, P12.3, P12.4
func TestAssign(t *testing.T) {
	check(t, "New", membership.New(), model{})
	check(t, "the zero value", new(membership.Book), model{})
	for _, l := range lists() {
		b, m := of(t, l...), modelOf(l)
		check(t, "Assign", b, m)
		checkUntil(t, "Assign", b, m)
	}
}

// P12.1: the assignment of the same user and role is replaced, whichever day is later.
func TestAssignReplaces(t *testing.T) {
	b := of(t, E{2, 5, 10}, E{2, 6, 11}, E{3, 5, 12})
	for _, until := range []int{0, 9, 10, 11, 30000} {
		c, e := b.Assign(2, 5, until)
		if e != api.OK {
			t.Fatalf("Assign: %v", e)
		}
		check(t, "replaced", c, model{{2, 5}: until, {2, 6}: 11, {3, 5}: 12})
	}
	check(t, "before", b, model{{2, 5}: 10, {2, 6}: 11, {3, 5}: 12})
}

// P12.1: ErrArg comes before ErrRange.
func TestAssignErrors(t *testing.T) {
	b := of(t, E{1, 1, 5})
	refuse := func(user, role, until int, want api.Errno) {
		t.Helper()
		if c, e := b.Assign(user, role, until); c != nil || e != want {
			t.Errorf("Assign(%d, %d, %d): %v, not %v", user, role, until, e, want)
		}
	}
	for _, user := range noUsers {
		refuse(user, 1, 5, api.ErrArg)
		refuse(user, 0, -1, api.ErrArg)
		refuse(user, 1, 30001, api.ErrArg)
	}
	for _, role := range noRoles {
		refuse(1, role, 5, api.ErrArg)
		refuse(1, role, -1, api.ErrArg)
		refuse(256, role, 30001, api.ErrArg)
	}
	for _, day := range noDays {
		refuse(1, 1, day, api.ErrRange)
		refuse(256, 63, day, api.ErrRange)
	}
	check(t, "after errors", b, model{{1, 1}: 5})
	for _, x := range []E{{1, 1, 0}, {256, 63, 30000}, {256, 1, 0}, {1, 63, 30000}} {
		if _, e := b.Assign(x.User, x.Role, x.Until); e != api.OK {
			t.Errorf("Assign(%v): %v", x, e)
		}
	}
}

// P12.2: whatever day it is, every assignment of the book can be revoked, and nothing else.
func TestRevoke(t *testing.T) {
	for _, l := range lists() {
		b, m := of(t, l...), modelOf(l)
		for _, x := range l[:min(len(l), 30)] {
			c, e := b.Revoke(x.User, x.Role)
			if e != api.OK {
				t.Fatalf("Revoke(%d, %d): %v", x.User, x.Role, e)
			}
			less := maps.Clone(m)
			delete(less, [2]int{x.User, x.Role})
			check(t, "Revoke", c, less)
			if d, e := c.Revoke(x.User, x.Role); d != nil || e != api.ErrNone {
				t.Fatalf("Revoke(%d, %d) again: %v", x.User, x.Role, e)
			}
		}
		for user := range 258 {
			for role := range 65 {
				if _, given := m[[2]int{user, role}]; given {
					continue
				}
				if c, e := b.Revoke(user, role); c != nil || e != api.ErrNone {
					t.Fatalf("Revoke(%d, %d): %v, not ErrNone", user, role, e)
				}
			}
		}
		for _, user := range noUsers {
			for _, role := range noRoles {
				if c, e := b.Revoke(user, role); c != nil || e != api.ErrNone {
					t.Fatalf("Revoke(%d, %d): %v, not ErrNone", user, role, e)
				}
			}
		}
		check(t, "the book after Revoke", b, m)
	}
}

// P12.2
func TestExpire(t *testing.T) {
	for _, l := range lists() {
		b, m := of(t, l...), modelOf(l)
		days := append([]int{0, 1, 5, 10, 300, 301, 15000, 29999, 30000}, noDays...)
		for _, day := range days {
			c := b.Expire(day)
			check(t, "Expire", c, m.from(day))
			if !c.Expire(day).Equal(c) {
				t.Fatalf("%v: Expire(%d) twice", l, day)
			}
			for _, later := range []int{day, 0, 1, 6, 301, 30000} {
				if later < day {
					continue
				}
				for user := range 257 {
					if !c.On(user, later).Equal(b.On(user, later)) {
						t.Fatalf("%v: On(%d, %d) after Expire(%d)", l, user, later, day)
					}
				}
			}
		}
		check(t, "the book after Expire", b, m)
	}
}

// P12.1 to P12.4: histories of changes, of which each book stays as it was.
func TestHistories(t *testing.T) {
	r := rand.New(rand.NewSource(13))
	for range 8 {
		var books []*membership.Book
		var models []model
		b, m := membership.New(), model{}
		for range 60 {
			if r.Intn(4) == 0 && len(books) > 0 { // go on with an earlier one
				i := r.Intn(len(books))
				b, m = books[i], models[i]
			}
			user, role, day := 1+r.Intn(4), 1+r.Intn(5), r.Intn(10)
			next := maps.Clone(m)
			e := api.OK
			switch r.Intn(6) {
			case 0:
				b, next = b.Expire(day), m.from(day)
			case 1, 2:
				want := api.ErrNone
				if _, given := m[[2]int{user, role}]; given {
					want = api.OK
				}
				c, got := b.Revoke(user, role)
				if got != want {
					t.Fatalf("%v: Revoke(%d, %d): %v, not %v", m, user, role, got, want)
				}
				if want == api.OK {
					b = c
				}
				delete(next, [2]int{user, role})
			default:
				b, e = b.Assign(user, role, day)
				next[[2]int{user, role}] = day
			}
			if e != api.OK {
				t.Fatalf("%v: Assign(%d, %d, %d): %v", m, user, role, day, e)
			}
			m = next
			books, models = append(books, b), append(models, m)
		}
		for i := range books {
			check(t, "history", books[i], models[i])
		}
		for range 200 {
			i, j := r.Intn(len(books)), r.Intn(len(books))
			if books[i].Equal(books[j]) != maps.Equal(models[i], models[j]) {
				t.Fatalf("Equal of %v and %v is %v", models[i], models[j], books[i].Equal(books[j]))
			}
		}
	}
}

// P12.4
func TestEqual(t *testing.T) {
	l := []*membership.Book{
		nil, membership.New(), of(t, E{1, 2, 3}), of(t, E{2, 1, 3}), of(t, E{1, 2, 4}), of(t, E{1, 3, 3}), of(t, E{256, 63, 3}), of(t, E{1, 2, 0}),
		of(t, E{1, 2, 3}, E{1, 3, 3}), of(t, E{1, 2, 3}, E{2, 2, 3}), of(t, E{1, 2, 3}, E{2, 2, 4}),
	}
	for i, b := range l {
		for j, c := range l {
			if b.Equal(c) != (i == j) {
				t.Errorf("Equal of %v and %v is %v", b.Entries(), c.Entries(), b.Equal(c))
			}
		}
	}
	other := of(t, E{1, 3, 9}, E{1, 1, 1}, E{1, 2, 3}, E{1, 3, 3})
	less, _ := other.Revoke(1, 1)
	if !less.Equal(l[8]) || !l[8].Equal(less) || less.Equal(other) {
		t.Error("Equal of books that were made in another order")
	}
	var zero membership.Book
	if !zero.Equal(membership.New()) || !membership.New().Equal(&zero) || zero.Equal(nil) {
		t.Error("Equal of the zero value")
	}
}

// P12.1 to P12.3, P12.5: the examples of the chapter.
func TestExamples(t *testing.T) {
	b := of(t, E{2, 5, 10}, E{2, 3, 7})
	if b.On(2, 7).Text() != "{3 5}" || b.On(2, 8).Text() != "{5}" || !slices.Equal(b.Users(5, 10), []int{2}) {
		t.Errorf("On: %s, %s; Users: %v", b.On(2, 7).Text(), b.On(2, 8).Text(), b.Users(5, 10))
	}
	if until, ok := b.Until(2, 3); until != 7 || !ok {
		t.Errorf("Until: %d, %v", until, ok)
	}
	c := of(t, append(b.Entries(), E{2, 3, 4})...)
	if c.On(2, 7).Text() != "{5}" || c.Expire(8).Len() != 1 {
		t.Errorf("On: %s; Expire: %v", c.On(2, 7).Text(), c.Expire(8).Entries())
	}
	if p := of(t, E{1, 2, 300}).Bytes(); !bytes.Equal(p, []byte{1, 1, 2, 130, 44}) {
		t.Errorf("Bytes: %v", p)
	}
}

// P12.3, P12.4, Rules: a result is new memory.
func TestResultsAreNew(t *testing.T) {
	l := []E{{1, 1, 1}, {1, 2, 9}, {2, 1, 9}}
	b := of(t, l...)
	clear(b.Entries())
	_ = append(b.Entries()[:1], E{9, 9, 9})
	clear(b.Users(1, 0))
	clear(b.Bytes())
	check(t, "after writing to results", b, modelOf(l))
}

// P12.1, P12.4, P12.5: a book with every assignment.
func TestFull(t *testing.T) {
	m := model{}
	for user := 1; user <= 256; user++ {
		for role := 1; role <= 63; role++ {
			m[[2]int{user, role}] = (user * role) % 30001
		}
	}
	l := m.entries()
	slices.Reverse(l)
	b := of(t, l...)
	if b.Len() != 256*63 {
		t.Errorf("Len: %d", b.Len())
	}
	checkUntil(t, "full", b, m)
	read, e := membership.Read(b.Bytes())
	if e != api.OK || !read.Equal(b) || !slices.Equal(read.Entries(), m.entries()) {
		t.Errorf("Read: %v", e)
	}
}

// The sentence on nil books of the chapter.
func TestNil(t *testing.T) {
	var b *membership.Book
	for _, x := range []E{{1, 1, 1}, {0, 0, -1}, {1, 1, -1}} {
		if c, e := b.Assign(x.User, x.Role, x.Until); c != nil || e != api.ErrArg {
			t.Errorf("Assign(%v): %v", x, e)
		}
		if c, e := b.Revoke(x.User, x.Role); c != nil || e != api.ErrArg {
			t.Errorf("Revoke(%v): %v", x, e)
		}
		if until, ok := b.Until(x.User, x.Role); until != 0 || ok || !b.On(x.User, x.Until).Empty() || len(b.Users(x.Role, x.Until)) != 0 {
			t.Errorf("%v: Until %d, %v, On %s, Users %v", x, until, ok, b.On(x.User, x.Until).Text(), b.Users(x.Role, x.Until))
		}
		if b.Expire(x.Until) != nil {
			t.Errorf("Expire(%d) is not nil", x.Until)
		}
	}
	if len(b.Entries()) != 0 || b.Len() != 0 || len(b.Bytes()) != 0 {
		t.Error("a nil book has something")
	}
	if !b.Equal(nil) || b.Equal(membership.New()) || membership.New().Equal(b) {
		t.Error("Equal of a nil book")
	}
}
