package witness_test

import (
	"math/rand"
	"slices"
	"testing"

	"arbac/api"
	"arbac/bits"
	"arbac/formula"
	"arbac/hierarchy"
	"arbac/meaning"
	"arbac/syntax"
	"arbac/witness"
)

// linked returns the hierarchy with some links.
func linked(t *testing.T, l ...[2]int) *hierarchy.Hierarchy {
	t.Helper()
	h := hierarchy.New()
	for _, p := range l {
		var e api.Errno
		if h, e = h.Link(p[0], p[1]); e != api.OK {
			t.Fatalf("Link %v: %d", p, e)
		}
	}
	return h
}

// least returns the subsets of a set that pass a test, of those with the least number of members, ascending; by definition.
func least(of S, passes func(S) bool) []S {
	l := slices.DeleteFunc(subsets(of), func(s S) bool { return !passes(s) })
	n := of.Len()
	for _, s := range l {
		n = min(n, s.Len())
	}
	l = slices.DeleteFunc(l, func(s S) bool { return s.Len() > n })
	slices.SortFunc(l, func(a, b S) int { return slices.Compare(a.List(), b.List()) })
	return l
}

// repairs and additions are what Repairs and Additions return without an error.
func repairs(f F, explicit S, h *hierarchy.Hierarchy) []S {
	return least(explicit, func(s S) bool { return meaning.Holds(f, h.Closure(explicit.Minus(s)), nil) })
}
func additions(f F, explicit, from S, h *hierarchy.Hierarchy) []S {
	return least(from.Minus(explicit), func(s S) bool { return meaning.Holds(f, h.Closure(explicit.Or(s)), nil) })
}

// texts returns the texts of sets.
func texts(l []S) []string {
	var out []string
	for _, s := range l {
		out = append(out, s.Text())
	}
	return out
}

// want checks a list of sets, and an error; without sets, it must be ErrNone.
func want(t *testing.T, what string, got []S, e api.Errno, sets []S) {
	t.Helper()
	expected := api.OK
	if len(sets) == 0 {
		expected = api.ErrNone
	}
	if e != expected || !slices.EqualFunc(got, sets, S.Equal) {
		t.Fatalf("%s: %q, error %d; not %q, error %d", what, texts(got), e, texts(sets), expected)
	}
}

// P21.3: the examples of the chapter, and others.
func TestRepairs(t *testing.T) {
	flat, senior, chain := linked(t), linked(t, [2]int{4, 1}, [2]int{4, 2}), linked(t, [2]int{3, 2}, [2]int{2, 1})
	for _, x := range []struct {
		f        string
		explicit S
		h        *hierarchy.Hierarchy
		want     []S
	}{
		{"count(a, b, c) <= 1", bits.Of(1, 2, 3), flat, []S{bits.Of(1, 2), bits.Of(1, 3), bits.Of(2, 3)}},
		{"count(a, b, c) <= 1", bits.Of(3, 4), senior, []S{bits.Of(4)}},
		{"count(a, b, c) <= 1", bits.Of(1, 2, 3, 4), senior, []S{bits.Of(1, 3, 4), bits.Of(2, 3, 4), bits.Of(1, 2, 4)}},
		{"a -> b", bits.Of(1, 3), flat, []S{bits.Of(1)}},
		{"a -> b", bits.Of(1, 4), senior, []S{{}}}, {"a", bits.Of(1), flat, []S{{}}}, {"true", bits.Of(), flat, []S{{}}}, {"not a", bits.Of(), flat, []S{{}}},
		{"not a", bits.Of(3), chain, []S{bits.Of(3)}}, {"not a", bits.Of(2, 3), chain, []S{bits.Of(2, 3)}}, {"not (a and c)", bits.Of(2, 3, 7), chain, []S{bits.Of(3)}},
		// To take away more may violate it again; everything may have to go; nothing may help.
		{"count(a, b, c) == 1", bits.Of(1, 2, 9), flat, []S{bits.Of(1), bits.Of(2)}},
		{"not (a or b or i)", bits.Of(1, 2, 9), flat, []S{bits.Of(1, 2, 9)}},
		{"a", bits.Of(2, 3), flat, nil}, {"a", bits.Of(), flat, nil}, {"false", bits.Of(1, 2), flat, nil},
		// Roles that the formula does not mention, with the greatest numbers and number of explicit roles.
		{"not (a and b)", bits.Of(1, 2, 63, 62, 61, 60, 59, 58, 57, 56, 55, 54), flat, []S{bits.Of(1), bits.Of(2)}},
		{"not (a or b)", bits.Of(63, 62, 61, 60, 59, 58, 57, 56, 55, 54, 53), linked(t, [2]int{63, 1}, [2]int{54, 2}), []S{bits.Of(54, 63)}},
	} {
		slices.SortFunc(x.want, S.Compare)
		f := parsed(t, x.f)
		got, e := witness.Repairs(f, x.explicit, x.h)
		want(t, x.f+" of "+x.explicit.Text(), got, e, x.want)
	}
	// A hierarchy may be the zero value.
	got, e := witness.Repairs(parsed(t, "not a"), bits.Of(1, 2), &hierarchy.Hierarchy{})
	want(t, "zero value", got, e, []S{bits.Of(1)})
}

// P21.4: the examples of the chapter, and others.
func TestAdditions(t *testing.T) {
	flat, senior := linked(t), linked(t, [2]int{4, 2})
	for _, x := range []struct {
		f              string
		explicit, from S
		h              *hierarchy.Hierarchy
		want           []S
	}{
		{"a -> b", bits.Of(1, 3), bits.Of(2, 4), flat, []S{bits.Of(2)}},
		{"a -> b", bits.Of(1, 3), bits.Of(2, 4), senior, []S{bits.Of(2), bits.Of(4)}},
		{"a -> b", bits.Of(1, 3), bits.Of(1, 3, 4), senior, []S{bits.Of(4)}},
		{"a -> b", bits.Of(3), bits.Of(2), flat, []S{{}}}, {"a -> b", bits.Of(1, 4), bits.Of(2), senior, []S{{}}}, {"true", bits.Of(), bits.Of(), flat, []S{{}}},
		{"count(a, b, c) >= 2", bits.Of(), bits.Of(1, 2, 3), flat, []S{bits.Of(1, 2), bits.Of(1, 3), bits.Of(2, 3)}},
		{"count(a, b, c) == 2", bits.Of(3), bits.Of(1, 2, 3, 4), senior, []S{bits.Of(1), bits.Of(2), bits.Of(4)}},
		{"a and b and c", bits.Of(), bits.Of(1, 2, 3), flat, []S{bits.Of(1, 2, 3)}}, {"a and b and c", bits.Of(2), bits.Of(1, 3), flat, []S{bits.Of(1, 3)}},
		// Nothing helps: a role of from that is explicit already, roles that are missing in from, a role too much.
		{"a -> b", bits.Of(1), bits.Of(1), flat, nil}, {"a -> b", bits.Of(1), bits.Of(), flat, nil}, {"a -> b", bits.Of(1), bits.Of(3, 5), senior, nil}, {"not a", bits.Of(1), bits.Of(2, 3), flat, nil}, {"false", bits.Of(), bits.Of(1), flat, nil},
		// Explicit roles do not count for the limit, neither in from nor out of it.
		{"a and b", bits.Below(40).Without(0).Without(1), bits.Of(1).Or(bits.Below(51).Minus(bits.Below(20))), flat, []S{bits.Of(1)}},
		{"a and b", bits.Of(5, 6), bits.Of(1, 2, 3, 4, 5, 6, 7, 8, 9, 10, 11, 12, 13, 63).Without(13), flat, []S{bits.Of(1, 2)}},
		{"a and b", bits.Of(), bits.Of(52, 53, 54, 55, 56, 57, 58, 59, 60, 61, 62, 63), linked(t, [2]int{52, 1}, [2]int{63, 2}), []S{bits.Of(52, 63)}},
	} {
		f := parsed(t, x.f)
		got, e := witness.Additions(f, x.explicit, x.from, x.h)
		want(t, x.f+" of "+x.explicit.Text()+" from "+x.from.Text(), got, e, x.want)
	}
	got, e := witness.Additions(parsed(t, "a"), bits.Of(2), bits.Of(1, 2), &hierarchy.Hierarchy{})
	want(t, "zero value", got, e, []S{bits.Of(1)})
}

// randomLinks returns a hierarchy of random links between the numbers from 1 to most.
func randomLinks(r *rand.Rand, most int) *hierarchy.Hierarchy {
	h := hierarchy.New()
	for range r.Intn(8) {
		if next, e := h.Link(1+r.Intn(most), 1+r.Intn(most)); e == api.OK {
			h = next
		}
	}
	return h
}

// P21.3, P21.4: random formulas, sets and hierarchies.
func TestRepairsRandom(t *testing.T) {
	r := rand.New(rand.NewSource(213))
	several, none := map[[2]int]int{}, 0
	for range 2500 {
		text, h := random(r, 2+r.Intn(7), 0), randomLinks(r, 10)
		f := parsed(t, text)
		explicit, from := randomSet(r, 10), randomSet(r, 10)
		what := text + " of " + explicit.Text() + " from " + from.Text()
		for i, sets := range [][]S{repairs(f, explicit, h), additions(f, explicit, from, h)} {
			// The second time, a caller has changed the first result.
			for range 2 {
				got, e := witness.Repairs(f, explicit, h)
				if i > 0 {
					got, e = witness.Additions(f, explicit, from, h)
				}
				want(t, what, got, e, sets)
				for j := range got {
					got[j] = bits.Of(77)
				}
			}
			if len(sets) == 0 {
				none++
				continue
			}
			several[[2]int{min(len(sets), 2), sets[0].Len()}]++
		}
	}
	for _, n := range [][2]int{{1, 0}, {1, 1}, {2, 1}, {1, 2}, {2, 2}, {1, 3}, {2, 3}} {
		if several[n] < 4 {
			t.Errorf("only %d results with %d sets of %d roles", several[n], n[0], n[1])
		}
	}
	if none < 100 {
		t.Errorf("only %d results without sets", none)
	}
}

// P21.3, P21.4: the first of several errors is the one that is returned.
func TestRepairErrors(t *testing.T) {
	h := linked(t)
	many := bits.Below(15).Minus(bits.Of(0, 2))
	yes, never, typed := parsed(t, "true"), parsed(t, "b"), F{Op: syntax.Number, N: 1}
	for i, x := range []struct {
		f        F
		explicit S
		h        *hierarchy.Hierarchy
		want     api.Errno
	}{
		{yes, bits.Of(1), nil, api.ErrArg}, {yes, bits.Of(0), h, api.ErrArg}, {yes, bits.Of(64), h, api.ErrArg}, {yes, bits.Of(1, 4095), h, api.ErrArg}, {yes, bits.Of(0, 1), h, api.ErrArg},
		{typed, many, nil, api.ErrArg}, {typed, many.With(64), h, api.ErrArg}, {typed, many, h, api.ErrType}, {typed, S{}, h, api.ErrType}, {F{Op: syntax.True, N: 1}, many, h, api.ErrForm}, {F{Op: 99}, many.With(0), h, api.ErrArg},
		{yes, many, h, api.ErrLimit}, {never, many, h, api.ErrLimit}, {never, bits.Below(64).Without(0), h, api.ErrLimit},
		{never, many.Without(1), h, api.ErrNone}, {yes, many.Without(1), h, api.OK}, {yes, bits.Of(63), h, api.OK},
	} {
		if l, e := witness.Repairs(x.f, x.explicit, x.h); e != x.want || e != api.OK && len(l) > 0 {
			t.Errorf("Repairs %d: %q, error %d", i, texts(l), e)
		}
		// From the roles that were explicit, with an explicit role of its own.
		if l, e := witness.Additions(x.f, bits.Of(20), x.explicit, x.h); e != x.want || e != api.OK && len(l) > 0 {
			t.Errorf("Additions %d: %q, error %d", i, texts(l), e)
		}
	}
	if _, e := witness.Additions(typed, bits.Of(0), many, h); e != api.ErrArg {
		t.Errorf("Additions: error %d for the explicit role 0", e)
	}
	if _, e := witness.Additions(typed, bits.Of(64), many, h); e != api.ErrArg {
		t.Errorf("Additions: error %d for the explicit role 64", e)
	}
	for i, f := range faults() {
		wanted := formula.Check(f, syntax.Static)
		_, e := witness.Repairs(f, many, h)
		_, d := witness.Additions(f, S{}, many, h)
		if e != wanted || d != wanted || wanted == api.OK {
			t.Errorf("formula %d: errors %d and %d, not %d", i, e, d, wanted)
		}
	}
}
