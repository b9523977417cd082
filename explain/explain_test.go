package explain_test

import (
	"math"
	"math/rand"
	"slices"
	"strings"
	"testing"

	"arbac/api"
	"arbac/compile"
	"arbac/explain"
	"arbac/monitor"
	"arbac/state"
)

// P29.1 to P29.3: example 1 of the chapter, and that of DOC.md.
func TestExamples(t *testing.T) {
	s := example(t)
	want := K{User: 1, Up: []int{1, 2}, Down: []int{2, 3}, Permission: may("read /a/*")}
	ann := after(t, state.New(), addUser("ann"), addRole("clerk"), addRole("reader"), link(1, 2), grants(2, "read /a/*"), appoint(1, 1, 5), open(1), activate(1, 2))
	wantAnn := K{User: 1, Up: []int{1, 2}, Down: []int{2}, Permission: may("read /a/*")}
	for _, x := range []struct {
		what string
		s    *S
		q    Q
		want K
		text string
	}{
		{"example 1", s, ask(1, "read", "/a/b"), want, "u: chief > clerk (active) > reader: read /a/*"},
		{"DOC.md, example 1", ann, ask(1, "read", "/a/b"), wantAnn, "ann: clerk > reader (active): read /a/*"},
		{"on the last day", after(t, ann, day(5)), ask(1, "read", "/a/b"), wantAnn, "ann: clerk > reader (active): read /a/*"},
		{"on the day after", after(t, ann, day(6)), ask(1, "read", "/a/b"), K{}, ""},
		{"without an active role", after(t, s, deactivate(1, 2)), ask(1, "read", "/a/b"), K{}, ""},
		{"closed", after(t, s, closes(1)), ask(1, "read", "/a/b"), K{}, ""},
		{"not covered", s, ask(1, "read", "/b"), K{}, ""},
		{"another session", s, ask(2, "read", "/a/b"), K{}, ""},
		{"no session", s, ask(0, "read", "/a/b"), K{}, ""},
		{"no action", s, ask(1, "by", "/a/b"), K{}, ""},
		{"no path", s, ask(1, "read", "/a/"), K{}, ""},
		{"revoked", after(t, s, dismiss(1, 1)), ask(1, "read", "/a/b"), K{}, ""},
		{"an empty state", state.New(), ask(1, "read", "/a/b"), K{}, ""},
	} {
		granted := x.text != ""
		c, ok := explain.Why(x.s, x.q)
		if ok != granted || !same(c, x.want) {
			t.Errorf("%s: Why is %+v, %v", x.what, c, ok)
		}
		if explain.Check(x.s, x.q, c) != granted || monitor.Spec(x.s, x.q).Granted != granted {
			t.Errorf("%s: Check of %+v is %v", x.what, c, !granted)
		}
		if text := explain.Text(x.s, c); text != x.text {
			t.Errorf("%s: Text is %q", x.what, text)
		}
	}
}

// P29.1: which one of several chains is the first.
func TestFirst(t *testing.T) {
	q := ask(1, "read", "/a/b")
	for _, x := range []struct {
		what string
		s    *S
		want string
	}{
		{"the shorter one, though greater", regular(t, 4, appoint(1, 1, 9), appoint(1, 4, 9), link(1, 2), grants(2, "read /a/b"), grants(4, "read /a/b"), open(1), activate(1, 2), activate(1, 4)), "u: r4 (active): read /a/b"},
		{"the shorter one by Down", regular(t, 4, appoint(1, 1, 9), appoint(1, 2, 9), link(1, 3), link(3, 4), link(2, 4), grants(4, "read /*"), open(1), activate(1, 1), activate(1, 2)), "u: r2 (active) > r4: read /*"},
		{"the sum of both parts", regular(t, 6, appoint(1, 1, 9), link(1, 2), link(1, 3), link(3, 4), link(2, 5), link(5, 6), grants(6, "read /*"), grants(4, "read /*"), open(1), activate(1, 2), activate(1, 4)), "u: r1 > r3 > r4 (active): read /*"},
		{"the least Up, its beginning", regular(t, 2, appoint(1, 1, 9), link(1, 2), grants(2, "read /*"), open(1), activate(1, 1), activate(1, 2)), "u: r1 (active) > r2: read /*"},
		{"the least Up, by its first role", regular(t, 3, appoint(1, 2, 9), appoint(1, 1, 9), link(1, 3), link(2, 3), grants(3, "read /*"), open(1), activate(1, 3)), "u: r1 > r3 (active): read /*"},
		{"the least Up, by a role between", regular(t, 4, appoint(1, 1, 9), link(1, 3), link(1, 2), link(3, 4), link(2, 4), grants(4, "read /*"), open(1), activate(1, 4)), "u: r1 > r2 > r4 (active): read /*"},
		{"the least Up, by its last role", regular(t, 4, appoint(1, 1, 9), link(1, 3), link(1, 2), grants(3, "read /a/b"), grants(2, "read /*"), open(1), activate(1, 2), activate(1, 3)), "u: r1 > r2 (active): read /*"},
		{"the least Up before the least Down", regular(t, 4, appoint(1, 2, 9), appoint(1, 3, 9), link(2, 4), link(3, 1), grants(1, "read /*"), grants(4, "read /*"), open(1), activate(1, 2), activate(1, 3)), "u: r2 (active) > r4: read /*"},
		{"the least Down, by its last role", regular(t, 3, appoint(1, 1, 9), link(1, 3), link(1, 2), grants(3, "read /a/b"), grants(2, "read /*"), open(1), activate(1, 1)), "u: r1 (active) > r2: read /*"},
		{"the least Down, by a role between", regular(t, 5, appoint(1, 1, 9), link(1, 4), link(1, 3), link(4, 2), link(3, 5), grants(2, "read /*"), grants(5, "read /*"), open(1), activate(1, 1)), "u: r1 (active) > r3 > r5: read /*"},
		{"the least Permission", regular(t, 1, appoint(1, 1, 9), grants(1, "read /a/b"), grants(1, "read /a/*"), grants(1, "read /b"), grants(1, "read /"), grants(1, "a /*"), open(1), activate(1, 1)), "u: r1 (active): read /a/*"},
		{"not deep before deep", regular(t, 1, appoint(1, 1, 9), grants(1, "read /a/b/*"), grants(1, "read /a/b"), open(1), activate(1, 1)), "u: r1 (active): read /a/b"},
		{"an active role that is none of the user's", after(t, regular(t, 3, appoint(1, 1, 5), appoint(1, 2, 9), link(2, 3), grants(1, "read /*"), grants(3, "read /*"), open(1), activate(1, 1), activate(1, 3)), day(6)), "u: r2 > r3 (active): read /*"},
	} {
		c, ok := explain.Why(x.s, q)
		if text := explain.Text(x.s, c); !ok || text != x.want {
			t.Errorf("%s: %q, %v", x.what, text, ok)
		}
	}
}

// P29.1, P29.2: random states, compared with all chains by the definition.
func TestWhy(t *testing.T) {
	r := rand.New(rand.NewSource(291))
	granted, several, long := 0, 0, 0
	for range 1200 {
		s := random(t, r)
		m, table := modelOf(s), compile.New(s)
		for _, q := range requests {
			l := m.chains(q)
			c, ok := explain.Why(s, q)
			if ok != (len(l) > 0) || ok != monitor.Decide(table, q).Granted || ok != monitor.Spec(s, q).Granted {
				t.Fatalf("Why(%+v): %v with %d chains", q, ok, len(l))
			}
			if !ok {
				if !same(c, K{}) {
					t.Fatalf("Why(%+v): %+v without a chain", q, c)
				}
				continue
			}
			least := slices.MinFunc(l, func(a, b K) int {
				if first(a, b) {
					return -1
				}
				return 1
			})
			if !same(c, least) {
				t.Fatalf("Why(%+v): %+v, not %+v", q, c, least)
			}
			granted++
			if len(l) > 1 {
				several++
			}
			if len(c.Up) > 1 && len(c.Down) > 1 {
				long++
			}
		}
	}
	if granted < 1500 || several < 700 || long < 50 {
		t.Errorf("only %d are granted, %d with several chains, %d by long ones", granted, several, long)
	}
}

// P29.1: many roles, and more chains than could be tried.
func TestFull(t *testing.T) {
	s := full(t)
	q := ask(1, "read", "/a/b")
	c, ok := explain.Why(s, q)
	if !ok || !same(c, K{User: 1, Up: []int{1, 63}, Down: []int{63}, Permission: may("read /a/*")}) {
		t.Errorf("%+v, %v", c, ok)
	}
	for role := 1; role <= api.MaxRoles; role++ {
		s = after(t, s, appoint(1, role, 9), activate(2, role))
	}
	q.Session = 2
	if c, ok := explain.Why(s, q); !ok || !same(c, K{User: 1, Up: []int{63}, Down: []int{63}, Permission: may("read /a/*")}) {
		t.Errorf("%+v, %v", c, ok)
	}
	whole := K{User: 1, Down: []int{63}, Permission: may("read /a/*")}
	for role := 1; role <= api.MaxRoles; role++ {
		whole.Up = append(whole.Up, role)
	}
	if !explain.Check(s, q, whole) {
		t.Error("the longest chain is refused")
	}
	// With links between neighbours only, the one chain has all roles.
	ladder := regular(t, api.MaxRoles, appoint(1, 1, 9), open(1), grants(63, "read /a/*"))
	for role := 1; role < api.MaxRoles; role++ {
		ladder = after(t, ladder, link(role, role+1))
	}
	ladder = after(t, ladder, activate(1, 40))
	q.Session = 1
	if c, ok := explain.Why(ladder, q); !ok || !slices.Equal(c.Up, whole.Up[:40]) || !slices.Equal(c.Down, whole.Up[39:]) || !explain.Check(ladder, q, c) {
		t.Errorf("%+v, %v", c, ok)
	}
}

// changed returns chains that differ from one in some place.
func changed(r *rand.Rand, c K) []K {
	lists := func(l []int) [][]int {
		out := [][]int{nil, {}, append([]int{1 + r.Intn(8)}, l...), append(slices.Clone(l), 1+r.Intn(8)), append(slices.Clone(l), l[len(l)-1]), l[1:], l[:len(l)-1]}
		for i := range l {
			for _, role := range []int{math.MinInt, -1, 0, 1 + r.Intn(8), 64, 5000, math.MaxInt} {
				next := slices.Clone(l)
				next[i] = role
				out = append(out, next, slices.Insert(slices.Clone(l), i, role))
			}
		}
		return out
	}
	var out []K
	for _, user := range []int{math.MinInt, -1, 0, 1, 2, 3, 257, math.MaxInt} {
		out = append(out, K{user, c.Up, c.Down, c.Permission})
	}
	for _, l := range lists(c.Up) {
		out = append(out, K{c.User, l, c.Down, c.Permission}, K{c.User, l, l, c.Permission})
		if len(l) > 0 {
			out = append(out, K{c.User, l, l[len(l)-1:], c.Permission})
		}
	}
	for _, l := range lists(c.Down) {
		out = append(out, K{c.User, c.Up, l, c.Permission})
		if len(l) > 0 {
			out = append(out, K{c.User, l[:1], l, c.Permission})
		}
	}
	for _, p := range []P{{}, {Action: "read", Path: "/"}, {Action: "read", Path: "/", Deep: true}, {Action: "write", Path: "/a", Deep: true}, {Action: "read", Path: "/a/b"}, {Action: "by", Path: "/a"}, {Action: "read", Path: "/a/", Deep: true}, {Action: c.Permission.Action, Path: c.Permission.Path, Deep: !c.Permission.Deep}} {
		out = append(out, K{c.User, c.Up, c.Down, p})
	}
	return out
}

// P29.2: a chain is accepted exactly if it is one of those that the definition gives.
func TestCheck(t *testing.T) {
	r := rand.New(rand.NewSource(292))
	accepted, refused := 0, 0
	for range 150 {
		s := random(t, r)
		m := modelOf(s)
		var granted []Q
		for _, q := range requests {
			if len(m.chains(q)) > 0 {
				granted = append(granted, q)
			}
		}
		for range 40 * min(len(granted), 1) {
			q := pick(r, granted...)
			c := pick(r, m.chains(q)...)
			if r.Intn(2) == 0 {
				q = pick(r, requests...)
			}
			l := m.chains(q)
			for _, d := range append(changed(r, c), append(l, K{})...) {
				want := slices.ContainsFunc(l, func(x K) bool { return same(x, d) })
				if explain.Check(s, q, d) != want {
					t.Fatalf("Check(%+v, %+v) is %v", q, d, !want)
				}
				if want {
					accepted++
				} else {
					refused++
				}
			}
		}
	}
	if accepted < 1000 || refused < 1000 {
		t.Errorf("%d are accepted, %d refused", accepted, refused)
	}
}

// P29.2: each sentence about a chain that justifies a request.
func TestCheckEach(t *testing.T) {
	p := may("read /a/*")
	q := ask(1, "read", "/a/b")
	s := after(t, example(t), addUser("v"), appoint(2, 1, 9), open(2), activate(2, 2), addRole("other"), grants(3, "read /b"), grants(2, "write /a/*"))
	good := K{User: 1, Up: []int{1, 2}, Down: []int{2, 3}, Permission: p}
	for _, x := range []struct {
		what string
		s    *S
		q    Q
		c    K
		want bool
	}{
		{"as it is", s, q, good, true},
		{"no number", s, ask(0, "read", "/a/b"), good, false}, {"no action", s, ask(1, "by", "/a/b"), good, false}, {"no path", s, ask(1, "read", "/a/b/"), good, false},
		{"not open", s, ask(3, "read", "/a/b"), good, false}, {"another user's session", s, ask(2, "read", "/a/b"), good, false}, {"another user", s, q, K{2, good.Up, good.Down, p}, false}, {"that user's session", s, ask(2, "read", "/a/b"), K{2, good.Up, good.Down, p}, true}, {"no user", s, q, K{0, good.Up, good.Down, p}, false},
		{"no Up", s, q, K{1, nil, good.Down, p}, false}, {"no explicit role", s, q, K{1, []int{2}, good.Down, p}, false}, {"not explicit any more", after(t, s, day(10)), q, good, false}, {"no link", s, q, K{1, []int{1, 4, 2}, good.Down, p}, false}, {"a role and itself", s, q, K{1, []int{1, 2, 2}, good.Down, p}, false}, {"no link, but implied", s, q, K{1, []int{1, 3}, []int{3}, p}, false}, {"the other way round", s, q, K{1, []int{1, 2, 1, 2}, good.Down, p}, false}, {"not active", s, q, K{1, []int{1}, []int{1, 2, 3}, p}, false}, {"active nearer", s, q, K{1, []int{1, 2, 3}, []int{3}, p}, false},
		{"no Down", s, q, K{1, good.Up, nil, p}, false}, {"begins below", s, q, K{1, good.Up, []int{3}, p}, false}, {"begins elsewhere", s, q, K{1, good.Up, []int{1, 2, 3}, p}, false}, {"no link down", s, q, K{1, good.Up, []int{2, 4, 3}, p}, false},
		{"granted to a junior only", s, q, K{1, good.Up, []int{2}, p}, false}, {"not covering", s, q, K{1, good.Up, good.Down, may("read /b")}, false}, {"another action", s, q, K{1, good.Up, []int{2}, may("write /a/*")}, false}, {"covering, but not granted", s, q, K{1, good.Up, good.Down, may("read /a/b")}, false}, {"a request of it", s, ask(1, "write", "/a"), K{1, good.Up, []int{2}, may("write /a/*")}, true},
		{"nothing", s, q, K{}, false}, {"no state", nil, q, good, false}, {"the zero state", new(S), q, good, false},
		{"long lists", s, q, K{1, slices.Repeat([]int{1, 2}, 1<<16), slices.Repeat([]int{2, 3}, 1<<16), p}, false},
	} {
		if explain.Check(x.s, x.q, x.c) != x.want {
			t.Errorf("%s: Check is %v", x.what, !x.want)
		}
	}
}

// P29.2: chains that differ in one field.
func TestEqual(t *testing.T) {
	var l []K
	for _, user := range []int{0, 1, 2} {
		for _, up := range [][]int{nil, {1}, {1, 2}, {2, 1}, {1, 2, 3}} {
			for _, down := range [][]int{nil, {1}, {1, 2}, {2, 1}, {1, 2, 3}} {
				for _, p := range []P{{}, may("read /a"), may("read /a/*"), may("write /a"), may("read /b")} {
					l = append(l, K{user, up, down, p})
				}
			}
		}
	}
	for i, a := range l {
		for j, b := range l {
			if explain.Equal(a, b) != (i == j) {
				t.Fatalf("Equal(%+v, %+v) is %v", a, b, i != j)
			}
		}
		if !explain.Equal(a, K{a.User, append([]int{}, a.Up...), append(make([]int, 0, 9), a.Down...), a.Permission}) {
			t.Errorf("%+v differs from itself", a)
		}
	}
}

// P29.3: texts of any chains, whether they justify something or not.
func TestText(t *testing.T) {
	s := after(t, example(t), addAdmin("hr"), addUser("v"))
	p := may("read /a/*")
	for _, x := range []struct {
		s    *S
		c    K
		want string
	}{
		{s, K{1, []int{1, 2}, []int{2, 3}, p}, "u: chief > clerk (active) > reader: read /a/*"},
		{s, K{2, []int{3}, []int{3}, may("run /")}, "v: reader (active): run /"},
		{s, K{1, []int{1, 2, 3}, []int{3}, p}, "u: chief > clerk > reader (active): read /a/*"},
		{s, K{1, []int{1}, []int{1, 2, 3}, may("run /*")}, "u: chief (active) > clerk > reader: run /*"},
		{s, K{1, []int{4, 4, 1}, []int{2, 2, 4}, p}, "u: hr > hr > chief (active) > clerk > hr: read /a/*"},
		{s, K{1, []int{1}, []int{1}, P{}}, "u: chief (active): "},
		{s, K{1, []int{1}, []int{1}, P{Action: "by", Path: "/a"}}, "u: chief (active): "},
		{nil, K{1, []int{1}, []int{1}, p}, ""}, {new(S), K{1, []int{1}, []int{1}, p}, ""},
		{s, K{}, ""}, {s, K{1, nil, []int{1}, p}, ""}, {s, K{1, []int{}, []int{1}, p}, ""}, {s, K{1, []int{1}, nil, p}, ""}, {s, K{1, []int{1}, []int{}, p}, ""},
		{s, K{0, []int{1}, []int{1}, p}, ""}, {s, K{3, []int{1}, []int{1}, p}, ""}, {s, K{-1, []int{1}, []int{1}, p}, ""}, {s, K{math.MaxInt, []int{1}, []int{1}, p}, ""},
		{s, K{1, []int{0}, []int{1}, p}, ""}, {s, K{1, []int{1, 5}, []int{1}, p}, ""}, {s, K{1, []int{5, 1}, []int{1}, p}, ""}, {s, K{1, []int{1}, []int{5}, p}, ""}, {s, K{1, []int{1}, []int{0, 1}, p}, ""}, {s, K{1, []int{1}, []int{1, 5}, p}, ""}, {s, K{1, []int{1}, []int{math.MinInt}, p}, ""},
	} {
		if text := explain.Text(x.s, x.c); text != x.want {
			t.Errorf("Text of %+v: %q, not %q", x.c, text, x.want)
		}
	}
	long := K{1, slices.Repeat([]int{1}, 1<<15), []int{1}, p}
	if text := explain.Text(s, long); text != "u: "+strings.Repeat("chief > ", 1<<15-1)+"chief (active): read /a/*" {
		t.Errorf("Text of a long chain has %d bytes", len(text))
	}
}

// No call changes a state or a chain, and results are new memory.
func TestMemory(t *testing.T) {
	s := full(t)
	before := s.Digest()
	q := ask(1, "read", "/a/b")
	a, _ := explain.Why(s, q)
	b, _ := explain.Why(s, q)
	text := explain.Text(s, a)
	for _, c := range []K{a, b} {
		for _, l := range [][]int{c.Up[:cap(c.Up)], c.Down[:cap(c.Down)]} {
			for i := range l {
				l[i] = -7
			}
		}
		b, _ = explain.Why(s, q)
	}
	if !same(b, K{User: 1, Up: []int{1, 63}, Down: []int{63}, Permission: may("read /a/*")}) || explain.Text(s, b) != text || s.Digest() != before {
		t.Errorf("%+v after a change of a result", b)
	}
	c := K{1, []int{1, 63}, []int{63}, may("read /a/*")}
	kept := K{1, slices.Clone(c.Up), slices.Clone(c.Down), c.Permission}
	if explain.Check(s, q, c); explain.Text(s, c) == "" || !same(c, kept) {
		t.Errorf("%+v is changed", c)
	}
}

// P29.1, P29.2: nil states and the state at the beginning justify nothing.
func TestNil(t *testing.T) {
	for _, s := range []*S{nil, new(S), state.New()} {
		for _, q := range requests {
			if c, ok := explain.Why(s, q); ok || !same(c, K{}) || explain.Check(s, q, K{1, []int{1}, []int{1}, may("read /*")}) || explain.Check(s, q, K{}) {
				t.Fatalf("%+v in a state without anything: %+v, %v", q, c, ok)
			}
		}
	}
}
