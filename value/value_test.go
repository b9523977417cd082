package value_test

import (
	"testing"

	"arbac/api"
	"arbac/bits"
	"arbac/formula"
	"arbac/names"
	"arbac/parser"
	"arbac/syntax"
	"arbac/value"
)

// P20.1: what expressions say, from their source on. The roles a, b and c have the numbers 1 to 3.
func TestHolds(t *testing.T) {
	roles, e := names.Of([]string{"a", "b", "c"}, api.MaxRoles)
	if e != api.OK {
		t.Fatal(e)
	}
	for _, x := range []struct {
		source  string
		kind    syntax.Kind
		roles   bits.Set
		members []int
		want    bool
	}{
		{"a and not b", syntax.Static, bits.Of(1, 3), nil, true}, {"a and not b", syntax.Static, bits.Of(1, 2), nil, false}, {"a or b", syntax.Dynamic, bits.Of(2), nil, true}, {"a or b", syntax.Dynamic, bits.Of(3), nil, false},
		{"a -> b -> c", syntax.Static, bits.Of(1, 2), nil, false}, {"a -> b -> c", syntax.Static, bits.Of(1), nil, true}, {"true -> false", syntax.Static, bits.Set{}, nil, false}, {"false -> false", syntax.Static, bits.Set{}, nil, true},
		{"count(a, b, c) <= 2", syntax.Static, bits.Of(1, 2, 3), nil, false}, {"count(a, b, c) < 2", syntax.Static, bits.Of(3, 4), nil, true}, {"count(a, b) >= 1", syntax.Static, bits.Of(3), nil, false}, {"1 > count(c)", syntax.Static, bits.Of(1), nil, true},
		{"count(a) + count(b) == 2", syntax.Static, bits.Of(1, 2), nil, true}, {"count(a) + count(b) == 2", syntax.Static, bits.Of(1, 3), nil, false},
		{"members(a) + members(b) + 1 == 7", syntax.Users, bits.Of(1), []int{9, 4, 2}, true}, {"members(c) > 0", syntax.Users, bits.Of(3), []int{9, 4, 2}, false},
		{"members(b) == 256", syntax.Users, bits.Set{}, []int{0, 0, 256}, true}, {"members(b) == 0", syntax.Users, bits.Set{}, []int{0, 0, 257}, true}, {"members(a) < 0", syntax.Users, bits.Set{}, []int{0, -1}, false},
	} {
		tree, _, e := parser.Expr(x.source)
		if e != api.OK {
			t.Fatalf("%q: %d", x.source, e)
		}
		f, e := formula.Resolve(tree, x.kind, roles, bits.Set{})
		if e != api.OK {
			t.Fatalf("%q: %d", x.source, e)
		}
		if got := (value.World{Roles: x.roles, Members: x.members}).Holds(f); got != x.want {
			t.Errorf("%q of %s, %v: %v", x.source, x.roles.Text(), x.members, got)
		}
	}
}
