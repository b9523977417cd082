package permission_test

import (
	"math/rand"
	"slices"
	"strings"
	"testing"

	"arbac/permission"
)

// pool are the permissions of random lists: of two actions, near to each other, and invalid ones.
func pool() []P {
	var l []P
	for _, a := range []string{"read", "run"} {
		for _, p := range []string{"/", "/a", "/a/a", "/a/b", "/a/b/a", "/b", "/b/a", "/ab", "/a-b", seven, eight} {
			l = append(l, P{a, p, false}, P{a, p, true})
		}
	}
	return append(l, P{}, P{"by", "/a", true}, P{"read", "/a/", true}, P{"", "/", true}, P{"read", "", true})
}

// random returns a list of permissions of the pool, with repetitions.
func random(r *rand.Rand) []P {
	from := pool()
	l := make([]P, r.Intn(9))
	for i := range l {
		l[i] = from[r.Intn(len(from))]
		if l[i].Deep && l[i].Path == "/" && r.Intn(3) > 0 {
			l[i].Deep = false // as it hides the rest of the list
		}
	}
	return l
}

// covered returns the requests that a list covers, as the definition says.
func covered(l []P, all [][2]string) []bool {
	out := make([]bool, len(all))
	for i, r := range all {
		out[i] = slices.ContainsFunc(l, func(p P) bool { return covers(p, r[0], r[1]) })
	}
	return out
}

// near returns requests that tell the permissions of the pool apart.
func near() [][2]string {
	var l [][2]string
	for _, p := range pool() {
		l = append(l, [2]string{p.Action, p.Path}, [2]string{p.Action, strings.TrimSuffix(p.Path, "/") + "/below"})
	}
	return l
}

// normal returns the normal list, as the definition says.
func normal(l []P) []P {
	var out []P
	for _, p := range l {
		more := func(q P) bool { return q != p && implies(q, p) }
		if isPermission(p) && !slices.ContainsFunc(l, more) && !slices.Contains(out, p) {
			out = append(out, p)
		}
	}
	slices.SortFunc(out, func(p, q P) int {
		if less(p, q) {
			return -1
		}
		return 1
	})
	return out
}

// P11.5, P11.6: random lists.
func TestLists(t *testing.T) {
	r := rand.New(rand.NewSource(11))
	all := near()
	same, shared := 0, 0
	for range 1200 {
		a, b := random(r), random(r)
		if r.Intn(3) == 0 { // the same list in another order, with permissions that it implies already
			b = append(slices.Clone(a), a[:r.Intn(len(a)+1)]...)
			r.Shuffle(len(b), func(i, j int) { b[i], b[j] = b[j], b[i] })
			b = b[:len(b)-r.Intn(2)*min(1, len(b))]
		}
		beforeA, beforeB := slices.Clone(a), slices.Clone(b)
		n := permission.Normal(a)
		if want := normal(a); !slices.Equal(n, want) {
			t.Fatalf("Normal(%v): %v, not %v", a, n, want)
		}
		inA, inB := covered(a, all), covered(b, all)
		if !slices.Equal(covered(n, all), inA) || !slices.Equal(permission.Normal(n), n) {
			t.Fatalf("Normal(%v): %v covers something else, or is not normal", a, n)
		}
		if want := slices.Equal(inA, inB); permission.Same(a, b) != want || slices.Equal(permission.Normal(a), permission.Normal(b)) != want {
			t.Fatalf("Same(%v, %v) is %v", a, b, !want)
		} else if want {
			same++
		}
		var minus []P
		for _, p := range normal(a) {
			if !slices.ContainsFunc(b, func(q P) bool { return implies(q, p) }) {
				minus = append(minus, p)
			}
		}
		if got := permission.Minus(a, b); !slices.Equal(got, minus) {
			t.Fatalf("Minus(%v, %v): %v, not %v", a, b, got, minus)
		}
		both := make([]bool, len(all))
		for i := range both {
			both[i] = inA[i] && inB[i]
		}
		c := permission.Common(a, b)
		if !slices.Equal(covered(c, all), both) || !slices.Equal(normal(c), c) || !slices.Equal(permission.Common(b, a), c) {
			t.Fatalf("Common(%v, %v): %v", a, b, c)
		}
		if len(c) > 0 && len(minus) > 0 {
			shared++
		}
		if !slices.Equal(a, beforeA) || !slices.Equal(b, beforeB) {
			t.Fatalf("the arguments %v, %v are changed", beforeA, beforeB)
		}
	}
	if same < 150 || shared < 150 {
		t.Errorf("only %d lists are the same, and %d have something in common", same, shared)
	}
}

// P11.5: each is there once, what another one implies is not, and neither is what is not valid.
func TestNormalEdges(t *testing.T) {
	for _, c := range []struct{ l, want []P }{
		{nil, nil}, {[]P{}, nil}, {[]P{{}}, nil}, {[]P{{"by", "/", true}, {"read", "/a/", false}, {"read", eight, true}}, nil},
		{[]P{{"read", "/a", true}, {"read", "/a", true}}, []P{{"read", "/a", true}}},
		{[]P{{"read", "/a", false}, {"read", "/a", true}}, []P{{"read", "/a", true}}},
		{[]P{{"read", "/a", true}, {"run", "/a", false}}, []P{{"read", "/a", true}, {"run", "/a", false}}},
		{[]P{{"read", "/a", false}, {"read", "/", false}}, []P{{"read", "/", false}, {"read", "/a", false}}},
		{[]P{{"read", "/ab", true}, {"read", "/a-b", true}, {"read", "/a", true}}, []P{{"read", "/a", true}, {"read", "/a-b", true}, {"read", "/ab", true}}},
		{[]P{{"read", eight, false}, {"read", eight, true}}, []P{{"read", eight, false}}},
		{[]P{{"read", eight, false}, {"read", seven, true}}, []P{{"read", seven, true}}},
		{[]P{{"read", eight, false}, {"read", "/", true}, {"read", "/", false}, {"read", "/zz", true}}, []P{{"read", "/", true}}},
		{[]P{{"read", "/a", false}, {"read", "", true}, {"by", "/", true}, {"", "/", true}}, []P{{"read", "/a", false}}},
	} {
		if got := permission.Normal(c.l); !slices.Equal(got, c.want) {
			t.Errorf("Normal(%v): %v, not %v", c.l, got, c.want)
		}
	}
}

// P11.5: lists without a valid permission cover nothing.
func TestSameEdges(t *testing.T) {
	for _, c := range []struct {
		a, b []P
		want bool
	}{
		{nil, nil, true}, {nil, []P{}, true}, {nil, []P{{}}, true}, {[]P{{"by", "/", true}}, []P{{"read", eight, true}}, true},
		{nil, []P{{"read", "/", false}}, false}, {[]P{{"read", "/a", true}}, []P{{"read", "/a", false}}, false},
		{[]P{{"read", "/a", true}, {"read", "/a/b", true}}, []P{{"read", "/a", true}}, true},
		{[]P{{"read", "/a", true}}, []P{{"run", "/a", true}}, false},
	} {
		if permission.Same(c.a, c.b) != c.want || permission.Same(c.b, c.a) != c.want {
			t.Errorf("Same(%v, %v) is not %v", c.a, c.b, c.want)
		}
	}
}

// P11.6: a permission of which only a part is in the other list stays whole.
func TestMinusAndCommonEdges(t *testing.T) {
	for _, c := range []struct{ a, b, minus, common []P }{
		{nil, nil, nil, nil}, {nil, []P{{"read", "/", true}}, nil, nil},
		{[]P{{"read", "/", true}}, nil, []P{{"read", "/", true}}, nil},
		{[]P{{"read", "/", true}}, []P{{}, {"by", "/", true}, {"read", "", true}}, []P{{"read", "/", true}}, nil},
		{[]P{{}, {"by", "/a", false}, {"read", eight, true}}, []P{{}, {"by", "/a", false}, {"read", eight, true}, {"read", "/", true}}, nil, nil},
		{[]P{{"read", "/a", true}}, []P{{"read", "/a", false}}, []P{{"read", "/a", true}}, []P{{"read", "/a", false}}},
		{[]P{{"read", "/a", false}}, []P{{"read", "/a", true}}, nil, []P{{"read", "/a", false}}},
		{[]P{{"read", "/a", true}}, []P{{"read", "/a/b", true}, {"read", "/ab", true}}, []P{{"read", "/a", true}}, []P{{"read", "/a/b", true}}},
		{[]P{{"read", "/a", true}, {"read", "/a/b", false}}, []P{{"read", "/a/b", false}}, []P{{"read", "/a", true}}, []P{{"read", "/a/b", false}}},
		{[]P{{"read", "/a", true}}, []P{{"run", "/", true}}, []P{{"read", "/a", true}}, nil},
		{[]P{{"read", "/", true}, {"run", eight, false}}, []P{{"run", seven, true}, {"read", seven, true}}, []P{{"read", "/", true}}, []P{{"read", seven, true}, {"run", eight, false}}},
	} {
		if got := permission.Minus(c.a, c.b); !slices.Equal(got, c.minus) {
			t.Errorf("Minus(%v, %v): %v, not %v", c.a, c.b, got, c.minus)
		}
		if got := permission.Common(c.a, c.b); !slices.Equal(got, c.common) {
			t.Errorf("Common(%v, %v): %v, not %v", c.a, c.b, got, c.common)
		}
	}
}

// P11.2, P11.5, P11.6: the examples of the chapter.
func TestListExamples(t *testing.T) {
	p := P{"read", "/a", true}
	if !permission.Covers(p, "read", "/a") || !permission.Covers(p, "read", "/a/b") || permission.Covers(p, "read", "/ab") || permission.Covers(p, "write", "/a") {
		t.Error("Covers")
	}
	l := []P{{"read", "/a/b", false}, {"read", "/a", true}, {"write", "/c", false}, {"read", "/a/b", true}}
	if got := permission.Normal(l); !slices.Equal(got, []P{{"read", "/a", true}, {"write", "/c", false}}) {
		t.Errorf("Normal: %v", got)
	}
	got := permission.Common([]P{{"read", "/a", true}, {"read", "/b", false}}, []P{{"read", "/a/b", false}, {"read", "/", true}})
	if !slices.Equal(got, []P{{"read", "/a", true}, {"read", "/b", false}}) {
		t.Errorf("Common: %v", got)
	}
}

// Rules: a result is new memory.
func TestResultsAreNew(t *testing.T) {
	l := []P{{"read", "/a", false}, {"read", "/b", true}}
	want := slices.Clone(l)
	for _, got := range [][]P{permission.Normal(l), permission.Minus(l, nil), permission.Common(l, l)} {
		if !slices.Equal(got, want) {
			t.Errorf("%v, not %v", got, want)
		}
		clear(got)
		_ = append(got[:0:cap(got)], P{"x", "/x", true}, P{"x", "/x", true})
		if !slices.Equal(l, want) {
			t.Fatal("a result shares memory with an argument")
		}
	}
}

// P1, P11.5, P11.6: long lists, which comparing all permissions with each other would hardly get through.
func TestLongLists(t *testing.T) {
	var l []P
	for i := range 12000 {
		p := ""
		for n := i; n > 0; n /= 16 {
			p += "/" + string("abcdefghijklmnop"[n%16])
		}
		l = append(l, P{"read", p + "/x", i%2 == 0}, P{"run", p + "/x", false})
	}
	n := permission.Normal(l)
	if len(n) != len(l) || !slices.IsSortedFunc(n, permission.Compare) || !permission.Same(l, n) {
		t.Errorf("Normal has %d of %d", len(n), len(l))
	}
	if len(permission.Minus(l, l)) != 0 || len(permission.Common(l, l)) != len(l) || len(permission.Minus(l, l[1:])) != 1 {
		t.Error("Minus or Common")
	}
}
