package grant_test

import (
	"maps"
	"math"
	"math/rand"
	"slices"
	"strings"
	"testing"

	"arbac/api"
	"arbac/bits"
	"arbac/grant"
	"arbac/hierarchy"
	"arbac/permission"
)

// E and P are short for tables of grants and of permissions.
type (
	E = grant.Entry
	P = permission.Permission
)

// on returns a permission, valid or not.
func on(action, path string, deep bool) P {
	return P{Action: action, Path: path, Deep: deep}
}

// noRoles are numbers that are no roles.
var noRoles = []int{math.MinInt, -1, 0, 64, 65, 127, 128, 4095, 4096, math.MaxInt}

// The paths at the limit of the depth, and the longest path.
var (
	seven   = strings.Repeat("/a", 7)
	eight   = strings.Repeat("/a", 8)
	longest = strings.Repeat("/abcdefghijkl", 8)
)

// roles and paths are those of random grants: the paths are near to each other.
var (
	roles = []int{1, 2, 3, 5, 62, 63}
	paths = []string{"/", "/a", "/a/a", "/a/b", "/a/b/c", "/ab", "/a-b", "/b", seven, eight}
)

// pool are the valid permissions of random grants.
func pool() []P {
	var l []P
	for _, action := range []string{"read", "run"} {
		for _, path := range paths {
			l = append(l, on(action, path, false))
			if path != eight {
				l = append(l, on(action, path, true))
			}
		}
	}
	return l
}

// wrong are permissions that are not valid, with the error of each.
func wrong() map[P]api.Errno {
	return map[P]api.Errno{
		{}: api.ErrName, on("by", "/a", false): api.ErrName, on("Read", "", true): api.ErrName, on("abcdefghijklm", eight, true): api.ErrName,
		on("read", "", false): api.ErrForm, on("read", "a", false): api.ErrForm, on("read", "/a/", true): api.ErrForm, on("read", "/a/*", false): api.ErrForm,
		on("read", eight, true): api.ErrForm, on("read", eight+"/a", false): api.ErrForm, on("read", longest, true): api.ErrForm,
	}
}

// requests are requests that tell the permissions of the pool apart, and invalid ones.
func requests() [][2]string {
	var l [][2]string
	for _, action := range []string{"read", "run", "write", "by", ""} {
		for _, path := range append([]string{"", "a", "/a/", "/c", "/a/c", "/a/b/c/d", "/ab/x", "/a-b/x", seven + "/b", eight + "/a"}, paths...) {
			l = append(l, [2]string{action, path})
		}
	}
	return l
}

// model has the grants of a book.
type model map[E]bool

// entries returns the grants of a model, in order.
func (m model) entries() []E {
	return slices.SortedFunc(maps.Keys(m), func(a, b E) int {
		if a.Role != b.Role {
			return a.Role - b.Role
		}
		return permission.Compare(a.Permission, b.Permission)
	})
}

// covering returns the roles with a grant that covers a request, as the definition says.
func (m model) covering(action, path string) bits.Set {
	var out bits.Set
	for x := range m {
		if permission.Covers(x.Permission, action, path) {
			out = out.With(x.Role)
		}
	}
	return out
}

// redundant returns the redundant grants, as the definition says.
func (m model) redundant(h *hierarchy.Hierarchy) []E {
	var out []E
	for _, x := range m.entries() {
		for y := range m {
			if y != x && (y.Role == x.Role || h.Implies(x.Role, y.Role)) && permission.Implies(y.Permission, x.Permission) {
				out = append(out, x)
				break
			}
		}
	}
	return out
}

// modelOf returns the model of a list.
func modelOf(l []E) model {
	m := model{}
	for _, x := range l {
		m[x] = true
	}
	return m
}

// random returns random grants of the pool, each once, in no order.
func random(r *rand.Rand, n int) []E {
	from := pool()
	var l []E
	for range n {
		x := E{roles[r.Intn(len(roles))], from[r.Intn(len(from))]}
		if !slices.Contains(l, x) {
			l = append(l, x)
		}
	}
	return l
}

// lists returns the grants of books of many shapes: none, at the limits, random ones.
func lists() [][]E {
	out := [][]E{
		nil, {{1, on("read", "/", false)}}, {{63, on("read", longest, false)}}, {{63, on("abcdefghijkl", seven, true)}, {1, on("a", eight, false)}},
		{{2, on("read", "/a", true)}, {2, on("read", "/a", false)}, {1, on("run", "/a", true)}, {1, on("read", "/a", true)}},
		{{1, on("read", "/ab", true)}, {1, on("read", "/a-b", true)}, {1, on("read", "/a", true)}, {1, on("read", "/a/b", true)}},
	}
	r := rand.New(rand.NewSource(13))
	for _, n := range []int{2, 4, 8, 20, 150} {
		for range 8 {
			out = append(out, random(r, n))
		}
	}
	return out
}

// of returns the book with some grants, which must be valid and different.
func of(t *testing.T, l ...E) *grant.Book {
	t.Helper()
	b := grant.New()
	for _, x := range l {
		next, e := b.Grant(x.Role, x.Permission)
		if e != api.OK || next == nil {
			t.Fatalf("Grant(%v): %v", x, e)
		}
		b = next
	}
	return b
}

// check checks that a book has the grants of a model.
func check(t *testing.T, what string, b *grant.Book, m model) {
	t.Helper()
	want := m.entries()
	if b == nil || !slices.Equal(b.Entries(), want) || b.Len() != len(want) {
		t.Fatalf("%s: Len %d, Entries %v, not %v", what, b.Len(), b.Entries(), want)
	}
	of := map[int][]P{}
	for _, x := range want {
		of[x.Role] = append(of[x.Role], x.Permission)
	}
	for role := range 65 {
		if !slices.Equal(b.Of(role), of[role]) {
			t.Fatalf("%s: Of(%d): %v, not %v", what, role, b.Of(role), of[role])
		}
	}
	for _, role := range noRoles {
		if len(b.Of(role)) > 0 {
			t.Fatalf("%s: Of(%d): %v", what, role, b.Of(role))
		}
	}
}

// P13.1: in whatever order the grants are made.
func TestGrant(t *testing.T) {
	check(t, "New", grant.New(), model{})
	check(t, "the zero value", new(grant.Book), model{})
	for _, l := range lists() {
		check(t, "Grant", of(t, l...), modelOf(l))
	}
	every := []E{}
	for role := 1; role <= 63; role++ {
		every = append(every, E{64 - role, on("read", "/", true)})
	}
	check(t, "every role", of(t, every...), modelOf(every))
}

// P13.1: ErrArg comes before the error of the permission, which comes before ErrExists.
func TestGrantErrors(t *testing.T) {
	b := of(t, E{1, on("read", "/a", true)})
	refuse := func(role int, p P, want api.Errno) {
		t.Helper()
		if c, e := b.Grant(role, p); c != nil || e != want {
			t.Errorf("Grant(%d, %v): %v, not %v", role, p, e, want)
		}
	}
	for _, role := range noRoles {
		refuse(role, on("read", "/a", true), api.ErrArg)
		refuse(role, P{}, api.ErrArg)
		refuse(role, on("read", "", true), api.ErrArg)
	}
	for p, want := range wrong() {
		refuse(1, p, want)
		refuse(63, p, want)
	}
	refuse(1, on("read", "/a", true), api.ErrExists)
	check(t, "after errors", b, modelOf(b.Entries()))
	for _, x := range []E{{1, on("read", "/a", false)}, {2, on("read", "/a", true)}, {1, on("run", "/a", true)}, {1, on("read", "/a/b", true)}, {63, on("read", "/", true)}} {
		if _, e := b.Grant(x.Role, x.Permission); e != api.OK {
			t.Errorf("Grant(%v): %v", x, e)
		}
	}
}

// most returns as many grants as a book can have.
func most() []E {
	var l []E
	for i := range 1000 {
		l = append(l, E{1 + i%63, on("read", "/"+string(rune('a'+i%26))+"/"+string(rune('a'+i/26%26))+"/"+string(rune('a'+i/676)), i%2 == 0)})
	}
	return l
}

// P13.1: ErrFull is the last error; whatever is withdrawn makes room.
func TestFull(t *testing.T) {
	if grant.Max != 1000 {
		t.Fatal("Max")
	}
	l := most()
	b := of(t, l...)
	check(t, "full", b, modelOf(l))
	for _, x := range []E{{1, on("run", "/", false)}, {63, on("zz", "/", true)}, {1, on("read", "/a/a/b", false)}} {
		if c, e := b.Grant(x.Role, x.Permission); c != nil || e != api.ErrFull {
			t.Errorf("Grant(%v) to a full book: %v", x, e)
		}
	}
	if c, e := b.Grant(l[7].Role, l[7].Permission); c != nil || e != api.ErrExists {
		t.Errorf("Grant(%v) to a full book: %v, not ErrExists", l[7], e)
	}
	for p, want := range wrong() {
		if c, e := b.Grant(1, p); c != nil || e != want {
			t.Errorf("Grant(1, %v) to a full book: %v, not %v", p, e, want)
		}
	}
	if c, e := b.Grant(64, l[7].Permission); c != nil || e != api.ErrArg {
		t.Errorf("Grant to 64 of a full book: %v, not ErrArg", e)
	}
	c, e := b.Withdraw(l[7].Role, l[7].Permission)
	if e != api.OK {
		t.Fatalf("Withdraw: %v", e)
	}
	d, e := c.Grant(1, on("run", "/", false))
	if e != api.OK || d.Len() != 1000 {
		t.Errorf("Grant after Withdraw: %v", e)
	}
	if _, e := d.Grant(l[7].Role, l[7].Permission); e != api.ErrFull {
		t.Errorf("Grant to the full book: %v", e)
	}
	if read, e := grant.Read(b.Bytes()); e != api.OK || !read.Equal(b) {
		t.Errorf("Read of a full book: %v", e)
	}
	if len(b.Redundant(nil)) != 0 || !b.Covering("read", "/a/a/a/a").Equal(bits.Of(1)) {
		t.Error("Redundant or Covering of a full book")
	}
}

// P13.1: every grant of the book can be withdrawn, and nothing else.
func TestWithdraw(t *testing.T) {
	for _, l := range lists() {
		b, m := of(t, l...), modelOf(l)
		for _, x := range l[:min(len(l), 20)] {
			c, e := b.Withdraw(x.Role, x.Permission)
			if e != api.OK {
				t.Fatalf("Withdraw(%v): %v", x, e)
			}
			less := maps.Clone(m)
			delete(less, x)
			check(t, "Withdraw", c, less)
			if d, e := c.Withdraw(x.Role, x.Permission); d != nil || e != api.ErrNone {
				t.Fatalf("Withdraw(%v) again: %v", x, e)
			}
		}
		for _, role := range []int{1, 2, 3, 4, 5, 62, 63} {
			for _, p := range pool() {
				if c, e := b.Withdraw(role, p); !m[E{role, p}] && (c != nil || e != api.ErrNone) {
					t.Fatalf("Withdraw(%d, %v): %v, not ErrNone", role, p, e)
				}
			}
			for p := range wrong() {
				if c, e := b.Withdraw(role, p); c != nil || e != api.ErrNone {
					t.Fatalf("Withdraw(%d, %v): %v, not ErrNone", role, p, e)
				}
			}
		}
		for _, role := range noRoles {
			for _, p := range []P{on("read", "/a", true), {}} {
				if c, e := b.Withdraw(role, p); c != nil || e != api.ErrArg {
					t.Fatalf("Withdraw(%d, %v): %v, not ErrArg", role, p, e)
				}
			}
		}
		check(t, "the book after Withdraw", b, m)
	}
}

// P13.1, P13.5: histories of changes, of which each book stays as it was.
func TestHistories(t *testing.T) {
	r := rand.New(rand.NewSource(14))
	from := pool()[:6]
	for range 8 {
		var books []*grant.Book
		var models []model
		b, m := grant.New(), model{}
		for range 60 {
			if r.Intn(4) == 0 && len(books) > 0 { // go on with an earlier one
				i := r.Intn(len(books))
				b, m = books[i], models[i]
			}
			x := E{1 + r.Intn(3), from[r.Intn(len(from))]}
			next, change, want := maps.Clone(m), (*grant.Book).Grant, api.OK
			if r.Intn(3) == 0 {
				change = (*grant.Book).Withdraw
				delete(next, x)
				if !m[x] {
					want = api.ErrNone
				}
			} else {
				next[x] = true
				if m[x] {
					want = api.ErrExists
				}
			}
			c, e := change(b, x.Role, x.Permission)
			if e != want || (c == nil) != (want != api.OK) {
				t.Fatalf("%v: %v: %v, not %v", m.entries(), x, e, want)
			}
			if e == api.OK {
				b, m = c, next
			}
			books, models = append(books, b), append(models, m)
		}
		for i := range books {
			check(t, "history", books[i], models[i])
		}
		for range 300 {
			i, j := r.Intn(len(books)), r.Intn(len(books))
			if books[i].Equal(books[j]) != maps.Equal(models[i], models[j]) {
				t.Fatalf("Equal of %v and %v is %v", models[i].entries(), models[j].entries(), books[i].Equal(books[j]))
			}
		}
	}
}

// P13.5
func TestEqual(t *testing.T) {
	l := []*grant.Book{
		nil, grant.New(), of(t, E{1, on("read", "/a", false)}), of(t, E{1, on("read", "/a", true)}), of(t, E{2, on("read", "/a", false)}),
		of(t, E{1, on("run", "/a", false)}), of(t, E{1, on("read", "/b", false)}), of(t, E{63, on("read", "/a", false)}),
		of(t, E{1, on("read", "/a", false)}, E{1, on("read", "/a", true)}), of(t, E{1, on("read", "/a", false)}, E{2, on("read", "/a", true)}),
		of(t, E{1, on("read", "/a", true)}, E{2, on("read", "/a", false)}), of(t, E{1, on("read", "/a", true)}, E{1, on("read", "/a/b", true)}),
	}
	for i, b := range l {
		for j, c := range l {
			if b.Equal(c) != (i == j) {
				t.Errorf("Equal of %v and %v is %v", b.Entries(), c.Entries(), b.Equal(c))
			}
		}
	}
	var zero grant.Book
	if !zero.Equal(grant.New()) || !grant.New().Equal(&zero) || zero.Equal(nil) {
		t.Error("Equal of the zero value")
	}
}

// P13.5: the order in which grants are made does not matter, and neither do those that are withdrawn again.
func TestEqualInAnyOrder(t *testing.T) {
	r := rand.New(rand.NewSource(15))
	for _, l := range lists() {
		b := of(t, l...)
		other := slices.Clone(l)
		r.Shuffle(len(other), func(i, j int) { other[i], other[j] = other[j], other[i] })
		c := of(t, append([]E{{7, on("write", "/a", true)}}, other...)...)
		if b.Equal(c) || c.Equal(b) {
			t.Fatalf("Equal of %v and one more", l)
		}
		c, e := c.Withdraw(7, on("write", "/a", true))
		if e != api.OK || !b.Equal(c) || !c.Equal(b) || !slices.Equal(b.Bytes(), c.Bytes()) {
			t.Fatalf("%v: not equal to %v", c.Entries(), b.Entries())
		}
	}
}

// P13.1 to P13.4, Rules: a result is new memory.
func TestResultsAreNew(t *testing.T) {
	l := []E{{1, on("read", "/a", false)}, {1, on("read", "/a", true)}, {2, on("read", "/a", true)}}
	b := of(t, l...)
	clear(b.Of(1))
	_ = append(b.Of(1)[:1], on("x", "/x", true))
	clear(b.Entries())
	_ = append(b.Entries()[:1], E{9, on("x", "/x", true)})
	clear(b.All(bits.Of(1, 2)))
	clear(b.Redundant(nil))
	clear(b.Bytes())
	check(t, "after writing to results", b, modelOf(l))
	one, _ := b.Grant(1, on("read", "/b", false))
	two, _ := b.Grant(1, on("read", "/c", false))
	check(t, "one", one, modelOf(append(slices.Clone(l), E{1, on("read", "/b", false)})))
	check(t, "two", two, modelOf(append(slices.Clone(l), E{1, on("read", "/c", false)})))
}

// The sentence on nil books of the chapter.
func TestNil(t *testing.T) {
	var b *grant.Book
	for _, x := range []E{{1, on("read", "/a", true)}, {0, on("read", "/a", true)}, {1, P{}}, {64, on("by", "", true)}} {
		if c, e := b.Grant(x.Role, x.Permission); c != nil || e != api.ErrArg {
			t.Errorf("Grant(%v): %v", x, e)
		}
		if c, e := b.Withdraw(x.Role, x.Permission); c != nil || e != api.ErrArg {
			t.Errorf("Withdraw(%v): %v", x, e)
		}
		if len(b.Of(x.Role)) != 0 || !b.Covering(x.Permission.Action, x.Permission.Path).Empty() || b.Has(bits.Below(64), x.Permission.Action, x.Permission.Path) {
			t.Errorf("a nil book has something: %v", x)
		}
	}
	if len(b.All(bits.Below(64))) != 0 || len(b.Redundant(nil)) != 0 || len(b.Redundant(hierarchy.New())) != 0 || len(b.Entries()) != 0 || b.Len() != 0 || len(b.Bytes()) != 0 {
		t.Error("a nil book has something")
	}
	if !b.Equal(nil) || b.Equal(grant.New()) || grant.New().Equal(b) {
		t.Error("Equal of a nil book")
	}
}
