package forward_test

import (
	"math"
	"math/rand"
	"slices"
	"testing"

	"arbac/api"
	"arbac/bits"
	"arbac/cube"
	"arbac/forward"
	"arbac/hierarchy"
	"arbac/scheme"
)

// P, R, C and S are short for problems, rules, cubes and sets.
type (
	P = scheme.Problem
	R = scheme.Rule
	C = cube.Cube
	S = bits.Set
)

// cubes returns the cubes with some texts.
func cubes(t *testing.T, l ...string) []C {
	t.Helper()
	var out []C
	for _, s := range l {
		c, e := cube.Parse(s)
		if e != api.OK {
			t.Fatalf("Parse(%q): %d", s, e)
		}
		out = append(out, c)
	}
	return out
}

// assign returns the rule that assigns a role if its cube, given as text, is satisfied; revoke the one that revokes a role.
func assign(t *testing.T, role int, condition string) R {
	t.Helper()
	return R{Target: role, If: cubes(t, condition)[0]}
}
func revoke(role int) R { return R{Revoke: true, Target: role} }

// example returns the problem of example 1 of the chapter.
func example(t *testing.T) P {
	t.Helper()
	return P{
		Roles: 3, Links: hierarchy.New(),
		Rules: []R{assign(t, 1, "full"), assign(t, 2, "1"), assign(t, 3, "!1 2"), revoke(1)},
		Goal:  cubes(t, "3"),
	}
}

// random returns a problem of up to n roles, which scheme.Check accepts.
func random(r *rand.Rand, n int) P {
	for {
		p := P{Roles: n - r.Intn(n)*r.Intn(2), Links: hierarchy.New()}
		set := func(few int) S {
			var s S
			for i := range p.Roles {
				if r.Intn(few) == 0 {
					s = s.With(i + 1)
				}
			}
			return s
		}
		some := func(few int) C {
			yes := set(few)
			return C{Yes: yes, No: set(few).Minus(yes)}
		}
		p.Start = set(8)
		for range r.Intn(p.Roles) {
			if next, e := p.Links.Link(1+r.Intn(p.Roles), 1+r.Intn(p.Roles)); e == api.OK {
				p.Links = next
			}
		}
		for range r.Intn(4 * n) {
			x := R{Revoke: r.Intn(3) == 0, Target: 1 + r.Intn(p.Roles)}
			if !x.Revoke {
				x.If = some(5 + r.Intn(4))
			}
			p.Rules = append(p.Rules, x)
		}
		for range r.Intn(4) {
			p.Never = append(p.Never, some(3))
		}
		for range r.Intn(3) {
			p.Goal = append(p.Goal, some(2))
		}
		if scheme.Check(p) == api.OK {
			return p
		}
	}
}

// same reports whether two results are equal.
func same(a, b forward.Result) bool {
	return a.Sets == b.Sets && a.Found == b.Found && slices.Equal(a.Plan, b.Plan)
}

// layers returns the sets that are reachable in 0, 1, 2, .. steps and not in fewer, by the definition.
func layers(p P) [][]S {
	all, now := []S{p.Start}, []S{p.Start}
	var out [][]S
	for len(now) > 0 {
		out = append(out, now)
		var next []S
		for _, s := range now {
			for k := range p.Rules {
				to, ok := scheme.Step(p, s, k)
				if ok && !slices.ContainsFunc(all, to.Equal) {
					all, next = append(all, to), append(next, to)
				}
			}
		}
		now = next
	}
	return out
}

// plans calls a function with the possible plans of a length, in lexicographic order, until it returns true, and reports whether it did.
func plans(p P, n int, begun []int, at S, found func(plan []int, end S) bool) bool {
	if n == 0 {
		return found(begun, at)
	}
	for k := range p.Rules {
		if next, ok := scheme.Step(p, at, k); ok && plans(p, n-1, append(slices.Clone(begun), k), next, found) {
			return true
		}
	}
	return false
}

// reach returns what Reach returns without a limit, by the definition: all plans are tried, the shortest ones first, and
// those of one length in their order. It gives up if the plan is longer than most.
func reach(p P, most int) (forward.Result, bool) {
	l := layers(p)
	var out forward.Result
	for n, layer := range l {
		out.Sets += len(layer)
		if !slices.ContainsFunc(layer, func(s S) bool { return scheme.Reached(p, s) }) {
			continue
		}
		if n > most {
			return forward.Result{}, false
		}
		out.Found = plans(p, n, nil, p.Start, func(plan []int, end S) bool {
			out.Plan = plan
			return scheme.Reached(p, end)
		})
		return out, true
	}
	return out, true
}

// P32.1: the examples of the chapter, and others.
func TestReach(t *testing.T) {
	p := example(t)
	without := p
	without.Rules = p.Rules[:3]
	never := p
	never.Never = cubes(t, "1 2")
	started := p
	started.Goal = cubes(t, "3", "!1 !3")
	linked := p
	linked.Links, _ = hierarchy.New().Link(1, 3)
	two := P{Roles: 4, Links: hierarchy.New(), Goal: cubes(t, "1 2"), Rules: []R{assign(t, 4, "full"), assign(t, 2, "full"), assign(t, 1, "full"), assign(t, 1, "full")}}
	for _, x := range []struct {
		what  string
		p     P
		limit int
		want  forward.Result
		e     api.Errno
	}{
		{"example 1", p, 100, forward.Result{Sets: 5, Found: true, Plan: []int{0, 1, 3, 2}}, api.OK}, {"example 1", p, 5, forward.Result{Sets: 5, Found: true, Plan: []int{0, 1, 3, 2}}, api.OK}, {"example 1", p, 4, forward.Result{}, api.ErrLimit},
		{"example 2", without, 3, forward.Result{Sets: 3}, api.OK}, {"example 2", without, 2, forward.Result{}, api.ErrLimit}, {"example 2", without, math.MaxInt, forward.Result{Sets: 3}, api.OK},
		{"never", never, 2, forward.Result{Sets: 2}, api.OK}, {"never", never, 1, forward.Result{}, api.ErrLimit},
		{"at the start", started, 1, forward.Result{Sets: 1, Found: true}, api.OK},
		{"by a link", linked, 2, forward.Result{Sets: 2, Found: true, Plan: []int{0}}, api.OK}, {"by a link", linked, 1, forward.Result{}, api.ErrLimit},
		// The sets in two steps are {1 2}, {1 4}, {2 4}; the goal is found as the first one of them, but all count.
		{"all of the last layer", two, 7, forward.Result{Sets: 7, Found: true, Plan: []int{1, 2}}, api.OK}, {"all of the last layer", two, 6, forward.Result{}, api.ErrLimit},
		{"no rules", P{Roles: 1, Links: hierarchy.New()}, 1, forward.Result{Sets: 1}, api.OK},
	} {
		got, e := forward.Reach(x.p, x.limit)
		if e != x.e || !same(got, x.want) {
			t.Errorf("%s, limit %d: %+v, error %d; not %+v, error %d", x.what, x.limit, got, e, x.want, x.e)
		}
	}
}

// P32.1, P32.3: random problems, with all limits.
func TestReachRandom(t *testing.T) {
	r := rand.New(rand.NewSource(321))
	found, long, missed := 0, 0, 0
	for range 4000 {
		p := random(r, 6)
		want, ok := reach(p, 6)
		if !ok {
			continue
		}
		before := scheme.Copy(p)
		for _, limit := range []int{1, want.Sets - 1, want.Sets, want.Sets + 1, 1 << 20} {
			got, e := forward.Reach(p, limit)
			switch {
			case limit < 1:
				continue
			case limit < want.Sets && (e != api.ErrLimit || !same(got, forward.Result{})), limit >= want.Sets && (e != api.OK || !same(got, want)):
				t.Fatalf("%+v, limit %d: %+v, error %d; not %+v", p, limit, got, e, want)
			}
		}
		if !scheme.Equal(p, before) {
			t.Fatal("the search has changed the problem")
		}
		got, _ := forward.Reach(p, want.Sets)
		wantPlan(t, p, got)
		switch {
		case !want.Found:
			missed++
		case len(want.Plan) > 2:
			long++
		default:
			found++
		}
	}
	if found < 300 || long < 100 || missed < 300 {
		t.Errorf("%d short plans, %d longer ones, %d times none", found, long, missed)
	}
}

// wantPlan checks that a plan is accepted, and reaches the goal at its end only.
func wantPlan(t *testing.T, p P, got forward.Result) {
	t.Helper()
	if !got.Found {
		return
	}
	for n := range len(got.Plan) + 1 {
		set, made, ok := scheme.Run(p, got.Plan[:n])
		if !ok || made != n || scheme.Reached(p, set) != (n == len(got.Plan)) {
			t.Fatalf("%+v: %d steps of %v lead to %s, %v", p, n, got.Plan, set.Text(), ok)
		}
	}
}

// P32.2, P32.4: random problems, with all limits.
func TestAll(t *testing.T) {
	r := rand.New(rand.NewSource(322))
	deep, many := 0, 0
	for range 600 {
		p := random(r, 6)
		var sets []S
		var counts []int
		for _, l := range layers(p) {
			sets, counts = append(sets, l...), append(counts, len(l))
		}
		slices.SortFunc(sets, func(a, b S) int { return slices.Compare(a.List(), b.List()) })
		for _, limit := range []int{1, len(sets) - 1, len(sets), len(sets) + 1, math.MaxInt} {
			if limit < 1 {
				continue
			}
			all, e := forward.All(p, limit)
			steps, f := forward.Layers(p, limit)
			if limit < len(sets) {
				if e != api.ErrLimit || f != api.ErrLimit || len(all)+len(steps) > 0 {
					t.Fatalf("%+v, limit %d: %d sets, error %d; layers %v, error %d", p, limit, len(all), e, steps, f)
				}
				continue
			}
			if e != api.OK || f != api.OK || !slices.EqualFunc(all, sets, S.Equal) || !slices.Equal(steps, counts) {
				t.Fatalf("%+v, limit %d: %v, error %d, not %v; layers %v, error %d, not %v", p, limit, all, e, sets, steps, f, counts)
			}
			sum := 0
			for _, n := range steps {
				sum += n
			}
			if sum != len(all) {
				t.Fatalf("%+v: %d sets, layers %v", p, len(all), steps)
			}
		}
		if len(counts) > 4 {
			deep++
		}
		if len(sets) > 10 {
			many++
		}
	}
	if deep < 50 || many < 50 {
		t.Errorf("%d problems with many layers, %d with many sets", deep, many)
	}
}

// P32.2: each set of some problems, and such as none is.
func TestCan(t *testing.T) {
	r := rand.New(rand.NewSource(3222))
	yes, no := 0, 0
	for range 300 {
		p := random(r, 5)
		l := slices.Concat(layers(p)...)
		for n := range 1 << p.Roles {
			var s S
			for i := range p.Roles {
				if n>>i&1 == 1 {
					s = s.With(i + 1)
				}
			}
			want := slices.ContainsFunc(l, s.Equal)
			for _, limit := range []int{len(l), 1 << 40} {
				if got, e := forward.Can(p, s, limit); e != api.OK || got != want {
					t.Fatalf("%+v: Can(%s) is %v, error %d", p, s.Text(), got, e)
				}
			}
			if got, e := forward.Can(p, s, len(l)-1); got || e == api.OK || len(l) > 1 && e != api.ErrLimit {
				t.Fatalf("%+v, limit %d: Can(%s) is %v, error %d", p, len(l)-1, s.Text(), got, e)
			}
			for _, far := range []int{0, p.Roles + 1, 63, 64, 65, 128, 4095} {
				if got, e := forward.Can(p, s.With(far), len(l)); got || e != api.OK {
					t.Fatalf("%+v: Can(%s) is %v, error %d", p, s.With(far).Text(), got, e)
				}
			}
			if want {
				yes++
			} else {
				no++
			}
		}
	}
	if yes < 500 || no < 500 {
		t.Errorf("%d sets are reachable, %d are not", yes, no)
	}
}

// P32.2: the sets and layers of the examples.
func TestExamples(t *testing.T) {
	p := example(t)
	all, e := forward.All(p, 8)
	var texts []string
	for _, s := range all {
		texts = append(texts, s.Text())
	}
	if want := []string{"{}", "{1}", "{1 2}", "{1 2 3}", "{2}", "{2 3}"}; e != api.OK || !slices.Equal(texts, want) {
		t.Errorf("All is %q, error %d", texts, e)
	}
	// {2 3} is reached in four steps, and by one step more {1 2 3}.
	if l, e := forward.Layers(p, 6); e != api.OK || !slices.Equal(l, []int{1, 1, 1, 1, 1, 1}) {
		t.Errorf("Layers is %v, error %d", l, e)
	}
	p.Rules = nil
	if l, e := forward.Layers(p, 1); e != api.OK || !slices.Equal(l, []int{1}) {
		t.Errorf("Layers without rules is %v, error %d", l, e)
	}
	// Nobody changes the next result by changing this one.
	p = example(t)
	first, _ := forward.Reach(p, 5)
	clear(first.Plan)
	clear(all)
	if again, _ := forward.Reach(p, 5); !slices.Equal(again.Plan, []int{0, 1, 3, 2}) {
		t.Errorf("the plan is now %v", again.Plan)
	}
}

// P32.1, P32.2: the errors of all functions, that of the limit first.
func TestErrors(t *testing.T) {
	good := example(t)
	change := func(f func(p *P)) P {
		p := scheme.Copy(good)
		f(&p)
		return p
	}
	for _, x := range []struct {
		p    P
		want api.Errno
	}{
		{P{}, api.ErrArg}, {change(func(p *P) { p.Links = nil }), api.ErrArg}, {change(func(p *P) { p.Roles = 64 }), api.ErrArg},
		{change(func(p *P) { p.Rules = make([]R, 65) }), api.ErrLimit}, {change(func(p *P) { p.Goal = make([]C, 2001) }), api.ErrLimit},
		{change(func(p *P) { p.Rules[0].Target = 4 }), api.ErrNone}, {change(func(p *P) { p.Start = bits.Of(64) }), api.ErrNone},
		{change(func(p *P) { p.Rules[3].If.No = bits.Of(1) }), api.ErrForm}, {change(func(p *P) { p.Never = []C{{Yes: bits.Of(1), No: bits.Of(1)}} }), api.ErrForm},
		{change(func(p *P) { p.Never = []C{{}} }), api.ErrState}, {good, api.OK},
	} {
		for _, limit := range []int{math.MinInt, -1, 0, 10} {
			want := x.want
			if limit < 1 {
				want = api.ErrArg
			}
			r, e := forward.Reach(x.p, limit)
			all, f := forward.All(x.p, limit)
			can, g := forward.Can(x.p, S{}, limit)
			l, h := forward.Layers(x.p, limit)
			if e != want || f != want || g != want || h != want {
				t.Errorf("%+v, limit %d: errors %d, %d, %d, %d, not %d", x.p, limit, e, f, g, h, want)
			}
			if want != api.OK && (!same(r, forward.Result{}) || len(all) > 0 || can || len(l) > 0) {
				t.Errorf("%+v, limit %d: %+v, %v, %v, %v with an error", x.p, limit, r, all, can, l)
			}
		}
	}
}

// snake returns a path of sets of roles up to n, each with a role more or less than the one before, and with no such
// step between any others of them, that begins with some sets and has so many; nothing if there is none.
func snake(n, length int, begun ...S) []S {
	if len(begun) == length {
		return begun
	}
	last := len(begun) - 1
	for i := range n {
		next := begun[last].With(i + 1)
		if begun[last].Has(i + 1) {
			next = begun[last].Without(i + 1)
		}
		near := func(s S) bool { return s.Minus(next).Len()+next.Minus(s).Len() < 2 }
		if slices.ContainsFunc(begun[:last], near) {
			continue
		}
		if l := snake(n, length, append(slices.Clone(begun), next)...); l != nil {
			return l
		}
	}
	return nil
}

// P32.1, P32.3, P32.4: long plans, and many sets.
func TestLarge(t *testing.T) {
	// Only the sets of a snake are good, so that the plan is far longer than there are roles.
	p, path, everyone := P{Roles: 6, Links: hierarchy.New()}, snake(6, 24, S{}), bits.Below(7).Without(0)
	for n := range 64 {
		s, _ := bits.Read([]byte{byte(2*n + 1)})
		if s = s.Without(0); !slices.ContainsFunc(path, s.Equal) {
			p.Never = append(p.Never, C{Yes: s, No: everyone.Minus(s)})
		}
	}
	for i := range 6 {
		p.Rules = append(p.Rules, R{Target: 6 - i}, R{Revoke: true, Target: 6 - i})
	}
	p.Goal = []C{{Yes: path[23], No: everyone.Minus(path[23])}}
	got, e := forward.Reach(p, 24)
	if e != api.OK || !got.Found || got.Sets != 24 || len(got.Plan) != 23 {
		t.Errorf("snake: %+v, error %d", got, e)
	}
	wantPlan(t, p, got)
	if l, e := forward.Layers(p, 24); e != api.OK || !slices.Equal(l, slices.Repeat([]int{1}, 24)) {
		t.Errorf("snake: layers %v, error %d", l, e)
	}
	// All roles, one after the other.
	chain := P{Roles: 63, Links: hierarchy.New(), Goal: []C{{Yes: bits.Of(63)}}, Rules: []R{{Target: 1}}}
	var want []int
	for i := 1; i < 63; i++ {
		chain.Rules = append(chain.Rules, R{Target: i + 1, If: C{Yes: bits.Of(i)}})
	}
	for i := range 63 {
		want = append(want, i)
	}
	if got, e := forward.Reach(chain, 64); e != api.OK || !same(got, forward.Result{Sets: 64, Found: true, Plan: want}) {
		t.Errorf("chain: %+v, error %d", got, e)
	}
	if ok, e := forward.Can(chain, bits.Below(64).Without(0), 64); !ok || e != api.OK {
		t.Errorf("all roles: %v, error %d", ok, e)
	}
	// All sets of the greatest roles, with as many steps as they have members.
	free := P{Roles: 63, Links: hierarchy.New()}
	for i := range 12 {
		free.Rules = append(free.Rules, R{Target: 63 - i}, R{Revoke: true, Target: 63 - i})
	}
	binomial := []int{1}
	for k := 1; k <= 12; k++ {
		binomial = append(binomial, binomial[k-1]*(13-k)/k)
	}
	if l, e := forward.Layers(free, 4096); e != api.OK || !slices.Equal(l, binomial) {
		t.Errorf("free: layers %v, error %d", l, e)
	}
	if _, e := forward.Layers(free, 4095); e != api.ErrLimit {
		t.Errorf("free: error %d", e)
	}
	free.Goal = []C{{Yes: bits.Of(52, 63, 55)}}
	if got, e := forward.Reach(free, 1+12+66+220); e != api.OK || !same(got, forward.Result{Sets: 299, Found: true, Plan: []int{0, 16, 22}}) {
		t.Errorf("free: %+v, error %d", got, e)
	}
}
