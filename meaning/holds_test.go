package meaning_test

import (
	"math"
	"math/rand"
	"slices"
	"testing"

	"arbac/api"
	"arbac/bits"
	"arbac/formula"
	"arbac/meaning"
	"arbac/syntax"
)

// F is short for formulas.
type F = formula.Formula

// op returns a formula of an operator and operands; the others return formulas without operands.
func op(o syntax.Op, l ...F) F { return F{Op: o, Args: l} }
func role(r int) F             { return F{Op: syntax.Role, Roles: []int{r}} }
func count(l ...int) F         { return F{Op: syntax.Count, Roles: l} }
func members(r int) F          { return F{Op: syntax.Members, Roles: []int{r}} }
func number(n int) F           { return F{Op: syntax.Number, N: n} }

// The two formulas without roles.
var yes, no = op(syntax.True), op(syntax.False)

// truth returns 1 for true, and 0 for false.
func truth(b bool) int {
	if b {
		return 1
	}
	return 0
}

// valueOf is the value of a formula by definition: that of one of the type Bool is 0 or 1.
func valueOf(f F, roles bits.Set, numbers []int) int {
	var v []int
	for _, x := range f.Args {
		v = append(v, valueOf(x, roles, numbers))
	}
	switch f.Op {
	case syntax.Number:
		return f.N
	case syntax.True, syntax.False:
		return truth(f.Op == syntax.True)
	case syntax.Role, syntax.Count:
		return roles.And(bits.Of(f.Roles...)).Len()
	case syntax.Members:
		r := f.Roles[0]
		if r < len(numbers) && numbers[r] >= 0 && numbers[r] <= 256 {
			return numbers[r]
		}
		return 0
	case syntax.Not:
		return 1 - v[0]
	case syntax.Add:
		return v[0] + v[1]
	}
	a, b := v[0], v[1]
	return truth(map[syntax.Op]bool{
		syntax.And: a+b == 2, syntax.Or: a+b > 0, syntax.Implies: a == 0 || b == 1,
		syntax.Le: a <= b, syntax.Lt: a < b, syntax.Ge: a >= b, syntax.Gt: a > b, syntax.Eq: a == b,
	}[f.Op])
}

// random returns a random formula of a type, with leaves that belong to the kinds of constraints given: both, or one of them.
func random(r *rand.Rand, y formula.Type, kinds []syntax.Kind, depth int) F {
	leaf := depth <= 1 || r.Intn(6) == 0
	kind := kinds[r.Intn(len(kinds))]
	switch {
	case leaf && y == formula.Bool && kind == syntax.Static && r.Intn(6) > 0:
		return role(1 + r.Intn(5))
	case leaf && y == formula.Bool:
		return []F{yes, no}[r.Intn(2)]
	case leaf && r.Intn(3) == 0:
		return number([]int{0, 1, 2, 3, 100, 999999}[r.Intn(6)])
	case leaf && kind == syntax.Static:
		return count([][]int{{1}, {2, 5}, {5, 1, 4}, {3, 1, 2, 4, 5, 63}}[r.Intn(4)]...)
	case leaf:
		return members([]int{1, 2, 3, 4, 5, 63}[r.Intn(6)])
	case y == formula.Int:
		return op(syntax.Add, random(r, y, kinds, depth-1), random(r, y, kinds, depth-1))
	case r.Intn(5) == 0:
		return op(syntax.Not, random(r, y, kinds, depth-1))
	case r.Intn(2) == 0:
		return op(syntax.And+syntax.Op(r.Intn(3)), random(r, y, kinds, depth-1), random(r, y, kinds, depth-1))
	}
	return op(syntax.Le+syntax.Op(r.Intn(5)), random(r, formula.Int, kinds, depth-1), random(r, formula.Int, kinds, depth-1))
}

// randomNumbers returns a list of numbers of members: of any length, now and then with numbers that are none.
func randomNumbers(r *rand.Rand) []int {
	l := make([]int, []int{0, 1, 3, 6, 63, 64, 100}[r.Intn(7)])
	for i := range l {
		l[i] = []int{0, 1, 2, 3, 4, 255, 256, 257, -1, math.MaxInt, math.MinInt}[r.Intn(11)]
	}
	return l
}

// P20.1: random formulas. A formula may have roles and numbers of members both.
func TestHoldsRandom(t *testing.T) {
	r := rand.New(rand.NewSource(2001))
	seen := map[bool]int{}
	for range 20000 {
		f := random(r, formula.Bool, [][]syntax.Kind{{syntax.Static}, {syntax.Users}, {syntax.Static, syntax.Users}}[r.Intn(3)], 1+r.Intn(6))
		roles := bits.Of(append(r.Perm(7)[:r.Intn(6)], 63*r.Intn(2), r.Intn(4096))...)
		numbers := randomNumbers(r)
		before := slices.Clone(numbers)
		want := valueOf(f, roles, numbers) == 1
		if meaning.Holds(f, roles, numbers) != want {
			t.Fatalf("%v of %s, %v: %v", f, roles.Text(), numbers, !want)
		}
		if !slices.Equal(numbers, before) {
			t.Fatal("Holds has changed its argument")
		}
		seen[want]++
	}
	if seen[true] < 5000 || seen[false] < 5000 {
		t.Errorf("%d formulas are true, %d are false", seen[true], seen[false])
	}
}

// P20.1: each operator with each combination of values.
func TestHoldsOperators(t *testing.T) {
	bools := []F{no, yes}
	for a, x := range bools {
		for b, y := range bools {
			for o, want := range map[syntax.Op]bool{syntax.And: a == 1 && b == 1, syntax.Or: a == 1 || b == 1, syntax.Implies: a == 0 || b == 1} {
				if meaning.Holds(op(o, x, y), bits.Set{}, nil) != want {
					t.Errorf("operator %d of %d and %d is not %v", o, a, b, want)
				}
			}
		}
		if meaning.Holds(op(syntax.Not, x), bits.Set{}, nil) != (a == 0) || meaning.Holds(x, bits.Set{}, nil) != (a == 1) {
			t.Errorf("Not of %d", a)
		}
	}
	for _, a := range []int{0, 1, 2, 999999} {
		for _, b := range []int{0, 1, 2, 999999} {
			for o, want := range map[syntax.Op]bool{syntax.Le: a <= b, syntax.Lt: a < b, syntax.Ge: a >= b, syntax.Gt: a > b, syntax.Eq: a == b} {
				if meaning.Holds(op(o, number(a), number(b)), bits.Set{}, nil) != want {
					t.Errorf("operator %d of %d and %d is not %v", o, a, b, want)
				}
			}
			if sum := op(syntax.Add, number(a), number(b)); !meaning.Holds(op(syntax.Gt, op(syntax.Add, sum, number(1)), op(syntax.Add, number(b), number(a))), bits.Set{}, nil) {
				t.Errorf("Add of %d and %d", a, b)
			}
		}
	}
}

// P20.1: the examples of the chapter, and the ends of the numbers.
func TestHoldsExamples(t *testing.T) {
	sod := op(syntax.Le, count(1, 2), number(1))
	implies := op(syntax.Implies, role(1), role(2))
	few := op(syntax.Lt, op(syntax.Add, members(1), members(2)), number(3))
	is := func(r, n int) F { return op(syntax.Eq, members(r), number(n)) }
	ends := make([]int, 64)
	ends[0], ends[1], ends[2], ends[3], ends[63] = 9, 256, 257, -1, 7
	for _, x := range []struct {
		f       F
		roles   bits.Set
		numbers []int
		want    bool
	}{
		{sod, bits.Of(1, 2), nil, false}, {sod, bits.Of(1, 3), nil, true}, {implies, bits.Of(1), nil, false}, {implies, bits.Set{}, nil, true}, {few, bits.Set{}, []int{0, 1, 1}, true},
		{few, bits.Of(1, 2, 3), []int{0, 1, 2}, false}, {few, bits.Set{}, nil, true}, {few, bits.Set{}, []int{3, 2}, true}, {sod, bits.Of(1, 2), []int{0, 0, 0}, false},
		{is(1, 256), bits.Set{}, ends, true}, {is(2, 0), bits.Set{}, ends, true}, {is(2, 257), bits.Set{}, ends, false}, {is(3, 0), bits.Set{}, ends, true}, {is(63, 7), bits.Set{}, ends, true},
		{is(63, 0), bits.Set{}, ends[:63], true}, {is(62, 0), bits.Of(62), nil, true}, {role(63), bits.Of(63), nil, true}, {role(63), bits.Below(63), nil, false},
		{op(syntax.Eq, count(1, 2, 3, 4, 5, 6, 7, 8), number(8)), bits.Below(9), nil, true}, {op(syntax.Eq, count(8, 63), number(1)), bits.Below(63), nil, true},
		// A formula of no kind of constraints, which has a type all the same.
		{op(syntax.And, role(1), is(1, 2)), bits.Of(1), []int{0, 2}, true}, {op(syntax.And, role(1), is(1, 2)), bits.Of(2), []int{0, 2}, false},
	} {
		if meaning.Holds(x.f, x.roles, x.numbers) != x.want {
			t.Errorf("%v of %s, %v is not %v", x.f, x.roles.Text(), x.numbers, x.want)
		}
	}
}

// faults are formulas that are none, or numbers.
func faults() []F {
	deep := yes
	for range 10 {
		deep = op(syntax.Not, deep)
	}
	endless := op(syntax.And, yes, yes)
	endless.Args[1] = endless
	wide := yes
	for range 7 {
		wide = op(syntax.And, wide, wide)
	}
	return []F{
		{}, {Op: 17}, {Op: 255}, number(0), number(1), count(1), members(1), op(syntax.Add, number(1), number(1)), deep, endless, wide, role(0), role(64), role(-1), role(math.MaxInt),
		{Op: syntax.Role}, {Op: syntax.Role, Roles: []int{1, 2}}, {Op: syntax.Members}, {Op: syntax.True, N: 1}, {Op: syntax.True, Args: []F{yes}}, op(syntax.Not), op(syntax.Not, yes, yes), op(syntax.And, yes), op(syntax.Or, yes, yes, yes), op(syntax.Eq, yes, yes),
		op(syntax.Or, yes, number(1)), op(syntax.Le, number(1)), op(syntax.Le, number(-1), number(1)), op(syntax.Le, number(1), number(1000000)), op(syntax.Le, count(), number(1)), op(syntax.Le, count(1, 1), number(5)), op(syntax.Le, count(1, 2, 3, 4, 5, 6, 7, 8, 9), number(9)), op(syntax.Eq, members(64), number(0)),
	}
}

// P20.1: what is not of the type Bool is false, and so is its opposite.
func TestHoldsFaults(t *testing.T) {
	huge := yes
	for range 100000 {
		huge = op(syntax.Not, huge)
	}
	for i, f := range append(faults(), huge) {
		if y, e := formula.TypeOf(f); e == api.OK && y == formula.Bool {
			t.Fatalf("formula %d has no fault", i)
		}
		for _, roles := range []bits.Set{{}, bits.Of(1), bits.Below(64), bits.Below(4096)} {
			for _, x := range []F{f, op(syntax.Not, f), op(syntax.Or, yes, f), op(syntax.Implies, no, f)} {
				if meaning.Holds(x, roles, []int{1, 1, 1}) {
					t.Errorf("formula %d, or one with it, is true", i)
				}
			}
		}
	}
}
