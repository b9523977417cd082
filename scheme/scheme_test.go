package scheme_test

import (
	"math"
	"math/rand"
	"slices"
	"testing"

	"arbac/api"
	"arbac/bits"
	"arbac/hierarchy"
	"arbac/scheme"
)

// example returns the problem of example 1 of the chapter, with a never cube.
func example(t *testing.T, never string) P {
	t.Helper()
	return P{
		Roles: 3,
		Links: linked(t, [2]int{1, 2}),
		Rules: []R{{Target: 1}, {Target: 3, If: parsed(t, "2")[0]}},
		Never: parsed(t, never),
		Goal:  parsed(t, "!1 3"),
	}
}

// P31.1, P31.2: example 1 of the chapter.
func TestExample(t *testing.T) {
	for _, x := range []struct {
		never string
		plan  []int
		text  string
		made  int
	}{
		{"1 3", []int{0, 1}, "{1}", 1}, {"!1 2", []int{0, 1}, "{1 3}", 2},
		{"1 3", []int{1}, "{}", 0}, {"1 3", nil, "{}", 0}, {"1 3", []int{0, 0}, "{1}", 1}, {"!1 2", []int{0, 1, 1, 0}, "{1 3}", 2},
		{"1 3", []int{2, 0}, "{}", 0}, {"1 3", []int{0, -1, 1}, "{1}", 1},
	} {
		p := example(t, x.never)
		if e := scheme.Check(p); e != api.OK {
			t.Errorf("Check: error %d", e)
		}
		set, made, ok := scheme.Run(p, x.plan)
		if set.Text() != x.text || made != x.made || ok != (made == len(x.plan)) {
			t.Errorf("never %s: Run(%v) is %s, %d, %v", x.never, x.plan, set.Text(), made, ok)
		}
	}
	p := example(t, "1 3")
	if s, ok := scheme.Step(p, S{}, 0); s.Text() != "{1}" || !ok {
		t.Errorf("step 0: %s, %v", s.Text(), ok)
	}
	if s, ok := scheme.Step(p, bits.Of(1), 1); s.Text() != "{}" || ok {
		t.Errorf("step 1: %s, %v", s.Text(), ok)
	}
	// The goal is about the closure, as all cubes are.
	if scheme.Reached(p, S{}) || scheme.Reached(p, bits.Of(1, 3)) || !scheme.Reached(p, bits.Of(3)) {
		t.Error("Reached")
	}
	if p.Goal = parsed(t, "3", "2"); !scheme.Reached(p, bits.Of(1)) || !scheme.Reached(p, bits.Of(1, 3)) {
		t.Error("Reached by the closure")
	}
}

// faulty returns a problem of five roles that is accepted, and for each error, in the order of the chapter, changes that bring it about.
func faulty(t *testing.T) (P, []api.Errno, [][]func(*P)) {
	t.Helper()
	p := P{Roles: 5, Links: linked(t, [2]int{1, 2}, [2]int{5, 4}), Start: bits.Of(1, 5), Rules: []R{{Target: 5, If: parsed(t, "1 !5")[0]}, {Revoke: true, Target: 1}}, Never: parsed(t, "3 5"), Goal: parsed(t, "!1", "5")}
	rule := func(x R) func(*P) { return func(p *P) { p.Rules = append(slices.Clone(p.Rules), x) } }
	never := func(c C) func(*P) { return func(p *P) { p.Never = append(slices.Clone(p.Never), c) } }
	goal := func(c C) func(*P) { return func(p *P) { p.Goal = append(slices.Clone(p.Goal), c) } }
	roles := func(n int) func(*P) { return func(p *P) { p.Roles = n } }
	links := func(l ...[2]int) func(*P) { return func(p *P) { p.Links = linked(t, l...) } }
	start := func(s S) func(*P) { return func(p *P) { p.Start = p.Start.Or(s) } }
	empty := C{Yes: bits.Of(1, 2), No: bits.Of(2)}
	return p, []api.Errno{api.ErrArg, api.ErrLimit, api.ErrNone, api.ErrForm, api.ErrState}, [][]func(*P){
		{func(p *P) { p.Links = nil }, roles(0), roles(-1), roles(64), roles(math.MinInt), roles(math.MaxInt)},
		{func(p *P) { p.Rules = make([]R, 65) }, func(p *P) { p.Never = make([]C, 2001) }, func(p *P) { p.Goal = make([]C, 2001) }},
		{
			links([2]int{6, 1}), links([2]int{1, 2}, [2]int{1, 63}), start(bits.Of(0)), start(bits.Of(6)), start(bits.Of(4095)),
			rule(R{}), rule(R{Target: 6}), rule(R{Target: -1}), rule(R{Revoke: true, Target: 0}), rule(R{Revoke: true, Target: 64}), rule(R{Target: math.MaxInt}), rule(R{Target: math.MinInt}),
			rule(R{Target: 1, If: C{Yes: bits.Of(6)}}), rule(R{Target: 1, If: C{No: bits.Of(0)}}), rule(R{Target: 1, Revoke: true, If: C{No: bits.Of(70)}}),
			never(C{Yes: bits.Of(2, 6)}), never(C{No: bits.Of(63)}), never(C{Yes: bits.Of(0), No: bits.Of(1)}),
			goal(C{Yes: bits.Of(6)}), goal(C{No: bits.Of(0)}), goal(C{No: bits.Of(1, 100)}),
		},
		{
			rule(R{Target: 1, If: empty}), rule(R{Target: 1, Revoke: true, If: empty}), never(empty), goal(empty),
			rule(R{Target: 1, Revoke: true, If: C{Yes: bits.Of(1)}}), rule(R{Target: 1, Revoke: true, If: C{No: bits.Of(5)}}),
		},
		{never(C{}), never(C{Yes: bits.Of(1)}), never(C{Yes: bits.Of(2)}), never(C{No: bits.Of(3)}), never(C{Yes: bits.Of(2, 4), No: bits.Of(3)}), start(bits.Of(3))},
	}
}

// P31.1: each error, and the first one of two.
func TestCheck(t *testing.T) {
	p, errors, faults := faulty(t)
	if e := scheme.Check(p); e != api.OK {
		t.Fatalf("error %d", e)
	}
	for i, first := range faults {
		for m, fault := range first {
			q := p
			fault(&q)
			if e := scheme.Check(q); e != errors[i] {
				t.Errorf("error %d, fault %d: error %d", errors[i], m, e)
			}
			for j := i + 1; j < len(faults); j++ {
				for n, later := range faults[j] {
					q := p
					later(&q)
					fault(&q)
					if e := scheme.Check(q); e != errors[i] {
						t.Errorf("error %d, fault %d, and error %d, fault %d: error %d", errors[i], m, errors[j], n, e)
					}
				}
			}
		}
	}
}

// P31.1: what is as large, or as small, as it may be.
func TestCheckLimits(t *testing.T) {
	chain := hierarchy.New()
	for i := range 62 {
		chain, _ = chain.Link(63-i, 62-i)
	}
	many := slices.Repeat([]C{{Yes: bits.Of(1), No: bits.Of(63)}}, 2000)
	for i, p := range []P{
		{Roles: 1, Links: hierarchy.New()}, {Roles: 1, Links: hierarchy.New(), Start: bits.Of(1), Rules: []R{{Revoke: true, Target: 1}}, Goal: []C{{}}},
		{Roles: 63, Links: chain, Start: bits.Of(numbers(63)...), Rules: slices.Repeat([]R{{Target: 63, If: C{Yes: bits.Of(1), No: bits.Of(63)}, Origin: -5}}, 64), Never: many, Goal: many},
	} {
		if e := scheme.Check(p); e != api.OK {
			t.Errorf("problem %d: error %d", i, e)
		}
	}
	if e := scheme.Check(P{}); e != api.ErrArg {
		t.Errorf("no problem: error %d", e)
	}
}

// P31.2: random problems, compared with the definitions.
func TestSteps(t *testing.T) {
	r := rand.New(rand.NewSource(312))
	good, reached, possible, refused, errors := 0, 0, 0, 0, 0
	for range 600 {
		p := randomProblem(r, 5)
		if scheme.Check(p) != api.OK {
			errors++
		}
		for _, s := range subsets(numbers(p.Roles)) {
			if got := scheme.Good(p, s); got == satisfies(p, p.Never, s) {
				t.Fatalf("%+v: Good(%s) is %v", p, s.Text(), got)
			} else if got {
				good++
			}
			if got := scheme.Reached(p, s); got != satisfies(p, p.Goal, s) {
				t.Fatalf("%+v: Reached(%s) is %v", p, s.Text(), got)
			} else if got {
				reached++
			}
			for k := -2; k < len(p.Rules)+2; k++ {
				want, ok := step(p, s, k)
				got, possibly := scheme.Step(p, s, k)
				if possibly != ok || !got.Equal(want) {
					t.Fatalf("%+v: Step(%s, %d) is %s, %v", p, s.Text(), k, got.Text(), possibly)
				}
				if ok {
					possible++
				} else {
					refused++
				}
			}
		}
	}
	if good < 2000 || reached < 500 || possible < 2000 || refused < 2000 || errors < 20 {
		t.Errorf("%d sets are good, %d reach the goal; %d steps are possible, %d are not; %d errors", good, reached, possible, refused, errors)
	}
}

// P31.2: random plans, compared with steps one after the other.
func TestRun(t *testing.T) {
	r := rand.New(rand.NewSource(3122))
	whole, short := 0, 0
	for range 5000 {
		p := randomProblem(r, 6)
		var plan []int
		want, n := p.Start, 0
		for stuck := false; r.Intn(15) > 0; {
			k := r.Intn(len(p.Rules)+2) - 1
			next, ok := step(p, want, k)
			if !ok && r.Intn(20) > 0 {
				continue
			}
			plan = append(plan, k)
			if stuck = stuck || !ok; !stuck {
				want, n = next, n+1
			}
		}
		before := slices.Clone(plan)
		got, made, ok := scheme.Run(p, plan)
		if !got.Equal(want) || made != n || ok != (n == len(plan)) || !slices.Equal(plan, before) {
			t.Fatalf("%+v: Run(%v) is %s, %d, %v", p, before, got.Text(), made, ok)
		}
		if ok && n > 2 {
			whole++
		} else if n > 1 {
			short++
		}
	}
	if whole < 100 || short < 100 {
		t.Errorf("%d whole plans, %d others", whole, short)
	}
}

// P31.2: problems that Check refuses: no links, a start that is not good, numbers that no set has, a revoke rule with a condition.
func TestWithoutCheck(t *testing.T) {
	p := example(t, "1 3")
	p.Links, p.Goal = nil, []C{{}}
	set, ok := scheme.Step(p, bits.Of(3), 0)
	at, n, all := scheme.Run(p, nil)
	if scheme.Good(p, S{}) || scheme.Reached(p, S{}) || ok || !set.Empty() || all || n != 0 || !at.Empty() {
		t.Error("without links")
	}
	p.Start = bits.Of(2)
	if at, n, all := scheme.Run(p, []int{0}); all || n != 0 || !at.Empty() {
		t.Error("without links Run makes steps")
	}
	// The start is not good, but a step leads out of this.
	p = P{Links: linked(t), Start: bits.Of(1), Never: parsed(t, "1"), Rules: []R{{Revoke: true, Target: 1, If: parsed(t, "2")[0]}, {Target: 2}}}
	if at, n, all := scheme.Run(p, []int{0, 1}); !all || n != 2 || at.Text() != "{2}" {
		t.Errorf("from a bad start: %s, %d, %v", at.Text(), n, all)
	}
	if at, n, all := scheme.Run(p, []int{1, 0}); all || n != 0 || at.Text() != "{1}" {
		t.Errorf("the first step leads to a bad set: %s, %d, %v", at.Text(), n, all)
	}
	if at, n, all := scheme.Run(p, nil); !all || n != 0 || at.Text() != "{1}" {
		t.Errorf("no steps from a bad start: %s, %d, %v", at.Text(), n, all)
	}
	for _, target := range []int{-1, 0, 64, 4095, 4096, math.MinInt, math.MaxInt} {
		p.Rules = []R{{Target: target}, {Revoke: true, Target: target}}
		want := bits.Of(5, target)
		if got, ok := scheme.Step(p, bits.Of(5), 0); !ok || !got.Equal(want) {
			t.Errorf("assign %d: %s, %v", target, got.Text(), ok)
		}
		got, ok := scheme.Step(p, want, 1)
		if ok != want.Has(target) || ok && !got.Equal(bits.Of(5)) || !ok && !got.Empty() {
			t.Errorf("revoke %d: %s, %v", target, got.Text(), ok)
		}
	}
}

// P31.7: Equal looks at every field, and at the order of lists.
func TestEqual(t *testing.T) {
	p, _, _ := faulty(t)
	p.Never, p.Rules[0].Origin = parsed(t, "3 5", "3"), 7
	for i, change := range []func(*P){
		func(q *P) { q.Roles = 6 },
		func(q *P) { q.Links = linked(t, [2]int{1, 2}) },
		func(q *P) { q.Links = nil },
		func(q *P) { q.Start = bits.Of(1) },
		func(q *P) { q.Rules[0].Revoke = true },
		func(q *P) { q.Rules[0].If.Yes = bits.Of(2) },
		func(q *P) { q.Rules[0].If.No = S{} },
		func(q *P) { q.Rules[1].Target = 2 },
		func(q *P) { q.Rules[0].Origin = 8 },
		func(q *P) { q.Rules = q.Rules[:1] },
		func(q *P) { q.Rules = append(q.Rules, q.Rules[1]) },
		func(q *P) { slices.Reverse(q.Rules) },
		func(q *P) { q.Never[1].Yes = bits.Of(4) },
		func(q *P) { q.Never = q.Never[:1] },
		func(q *P) { q.Never = append(q.Never, q.Never[1]) },
		func(q *P) { slices.Reverse(q.Never) },
		func(q *P) { q.Goal[0].No = S{} },
		func(q *P) { q.Goal = nil },
		func(q *P) { slices.Reverse(q.Goal) },
	} {
		q := scheme.Copy(p)
		if !scheme.Equal(p, q) || !scheme.Equal(q, p) {
			t.Fatal("a copy is not equal")
		}
		change(&q)
		if scheme.Equal(p, q) || scheme.Equal(q, p) {
			t.Errorf("change %d makes no difference", i)
		}
	}
	same := P{Links: linked(t, [2]int{5, 4}, [2]int{1, 2}), Roles: 5, Start: bits.Of(5, 1), Rules: slices.Clone(p.Rules), Never: parsed(t, "3 5", "3"), Goal: parsed(t, "!1", "5")}
	if !scheme.Equal(p, same) {
		t.Error("problems that were made in different ways differ")
	}
	if !scheme.Equal(P{}, P{Rules: []R{}, Never: []C{}, Goal: []C{}}) || scheme.Equal(P{}, P{Links: hierarchy.New()}) {
		t.Error("problems without anything")
	}
}

// P31.7: a copy shares no lists.
func TestCopy(t *testing.T) {
	r := rand.New(rand.NewSource(317))
	for range 300 {
		p := randomProblem(r, 6)
		q := scheme.Copy(p)
		again := scheme.Copy(q)
		if !scheme.Equal(p, q) {
			t.Fatalf("%+v: the copy is %+v", p, q)
		}
		for _, l := range [][]C{p.Never, p.Goal, again.Never, again.Goal} {
			for i := range l {
				l[i] = C{Yes: bits.Of(7)}
			}
			_ = append(l[:0], C{Yes: bits.Of(8)})
		}
		for i := range p.Rules {
			p.Rules[i].Target, again.Rules[i].Target = 9, 9
		}
		for _, c := range append(slices.Clone(q.Never), q.Goal...) {
			if c.Yes.Has(7) || c.Yes.Has(8) {
				t.Fatal("a copy shares cubes")
			}
		}
		if slices.ContainsFunc(q.Rules, func(x R) bool { return x.Target == 9 }) {
			t.Fatal("a copy shares rules")
		}
	}
	if q := scheme.Copy(P{}); !scheme.Equal(q, P{}) {
		t.Errorf("the copy of nothing is %+v", q)
	}
}
