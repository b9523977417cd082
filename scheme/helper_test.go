package scheme_test

import (
	"math/rand"
	"slices"
	"testing"

	"arbac/api"
	"arbac/bits"
	"arbac/cube"
	"arbac/hierarchy"
	"arbac/scheme"
)

// P, R, C and S are short for problems, rules, cubes and sets.
type (
	P = scheme.Problem
	R = scheme.Rule
	C = cube.Cube
	S = bits.Set
)

// must returns a value without an error.
func must[T any](t *testing.T, x T, e api.Errno) T {
	t.Helper()
	if e != api.OK {
		t.Fatalf("error %d", e)
	}
	return x
}

// parsed returns the cubes with some texts.
func parsed(t *testing.T, l ...string) []C {
	t.Helper()
	var out []C
	for _, s := range l {
		c, e := cube.Parse(s)
		out = append(out, must(t, c, e))
	}
	return out
}

// linked returns the hierarchy with some links.
func linked(t *testing.T, l ...[2]int) *hierarchy.Hierarchy {
	t.Helper()
	h := hierarchy.New()
	for _, p := range l {
		next, e := h.Link(p[0], p[1])
		h = must(t, next, e)
	}
	return h
}

// texts returns the texts of cubes, for messages.
func texts(l []C) []string {
	var out []string
	for _, c := range l[:min(len(l), 50)] {
		out = append(out, c.Text())
	}
	return out
}

// subsets returns all sets of some roles.
func subsets(roles []int) []S {
	out := []S{{}}
	for _, i := range roles {
		for _, s := range slices.Clone(out) {
			out = append(out, s.With(i))
		}
	}
	return out
}

// numbers returns the numbers from 1 to n.
func numbers(n int) []int {
	var l []int
	for i := range n {
		l = append(l, i+1)
	}
	return l
}

// randomSet returns a set of numbers from 1 to n, of which about one in few is there.
func randomSet(r *rand.Rand, n, few int) S {
	var s S
	for i := range n {
		if r.Intn(few) == 0 {
			s = s.With(i + 1)
		}
	}
	return s
}

// randomCube returns a cube, not empty, over roles up to n.
func randomCube(r *rand.Rand, n, few int) C {
	yes := randomSet(r, n, few)
	return C{Yes: yes, No: randomSet(r, n, few).Minus(yes)}
}

// randomLinks returns a hierarchy of roles up to n.
func randomLinks(r *rand.Rand, n int) *hierarchy.Hierarchy {
	h := hierarchy.New()
	place, dense := r.Perm(n), r.Float64()
	for senior := range n {
		for junior := range n {
			if place[senior] < place[junior] && r.Float64() < dense {
				h, _ = h.Link(senior+1, junior+1)
			}
		}
	}
	return h
}

// randomProblem returns a problem of up to n roles, whose start is good in most cases.
func randomProblem(r *rand.Rand, n int) P {
	p := P{Roles: 1 + r.Intn(n)}
	p.Links, p.Start = randomLinks(r, p.Roles), randomSet(r, p.Roles, 3)
	for i := range r.Intn(8) {
		x := R{Revoke: r.Intn(3) == 0, Target: 1 + r.Intn(p.Roles), Origin: i}
		if !x.Revoke {
			x.If = randomCube(r, p.Roles, 4)
		}
		p.Rules = append(p.Rules, x)
	}
	for range r.Intn(3) {
		p.Never = append(p.Never, randomCube(r, p.Roles, 2))
	}
	for range r.Intn(3) {
		p.Goal = append(p.Goal, randomCube(r, p.Roles, 2))
	}
	return p
}

// closed returns all roles that some role of a set implies, by going along the links.
func closed(h *hierarchy.Hierarchy, s S) S {
	s = s.And(bits.Of(numbers(api.MaxRoles)...))
	for range api.MaxRoles {
		for _, l := range h.Links() {
			if s.Has(l[0]) {
				s = s.With(l[1])
			}
		}
	}
	return s
}

// satisfies reports whether the closure of a set satisfies some cube, literal by literal.
func satisfies(p P, l []C, s S) bool {
	s = closed(p.Links, s)
	return slices.ContainsFunc(l, func(c C) bool {
		for r := range c.Yes.All() {
			if !s.Has(r) {
				return false
			}
		}
		for r := range c.No.All() {
			if s.Has(r) {
				return false
			}
		}
		return true
	})
}

// step returns the set after a step, by the definition.
func step(p P, s S, k int) (S, bool) {
	if k < 0 || k >= len(p.Rules) {
		return S{}, false
	}
	x := p.Rules[k]
	next := s.With(x.Target)
	possible := !s.Has(x.Target) && satisfies(p, []C{x.If}, s)
	if x.Revoke {
		next, possible = s.Without(x.Target), s.Has(x.Target)
	}
	if !possible || satisfies(p, p.Never, next) {
		return S{}, false
	}
	return next, true
}
