package permission_test

import (
	"regexp"
	"slices"
	"strings"
	"testing"

	"arbac/api"
	"arbac/permission"
)

// P is short for tables of permissions.
type P = permission.Permission

// The paths at the limit of the depth.
var (
	seven = strings.Repeat("/a", 7)
	eight = strings.Repeat("/a", 8)
)

// action and names are what actions and the paths with names look like, but for keywords and the names "." and "..".
var (
	action = regexp.MustCompile(`\A[a-z][a-z0-9_]{0,11}\z`)
	names  = regexp.MustCompile(`\A(/[a-z0-9_.-]{1,12}){1,8}\z`)
)

// isAction reports whether a text is an action, as the definition says (of the keywords the tests use some only).
func isAction(s string) bool {
	return action.MatchString(s) && !slices.Contains([]string{"by", "all", "users"}, s)
}

// isPath reports whether a text is a path, as the definition says.
func isPath(s string) bool {
	l := strings.Split(s, "/")
	return s == "/" || names.MatchString(s) && !slices.Contains(l, ".") && !slices.Contains(l, "..")
}

// isPermission reports whether a permission is valid, as the definition says.
func isPermission(p P) bool {
	return isAction(p.Action) && isPath(p.Path) && !(p.Deep && strings.Count(p.Path, "/") == 8)
}

// covers reports whether p covers a request, as the definition says.
func covers(p P, action, path string) bool {
	if !isPermission(p) || !isAction(action) || !isPath(path) || action != p.Action {
		return false
	}
	return path == p.Path || p.Deep && strings.HasPrefix(path, strings.TrimSuffix(p.Path, "/")+"/")
}

// good are paths that are near to each other, and those at the limits.
var good = []string{
	"/", "/a", "/a/a", "/a/b", "/a/a/a", "/a/b/a", "/a/b/b", "/b", "/b/a", "/ab", "/ab/a", "/a-b", "/a.b/a", "/a/b.c", "/a/b-", "/...",
	"/abcdefghijkl", "/abcdefghijkl/a", seven, eight, seven + "/b", seven[:12],
}

// bad are texts that are no paths.
var bad = []string{"", "a", "//", "/a/", "/a//b", "/*", "/a/*", "*", "/.", "/a/..", "/A", "/a b", "/a/b ", "/abcdefghijklm", eight + "/a", eight + "/", "/\xff"}

// actions are actions and texts that are none.
var actions = []string{"a", "read", "reads", "r2_", "abcdefghijkl", "", "by", "A", "2a", "_a", "a-b", "re ad", "read ", "abcdefghijklm", "\xff", "/a"}

// requests returns all requests of the tests. For each path there is one more that lies
// below it and is in no permission of the tests, so that what covers all that a deep
// permission covers is deep.
func requests() [][2]string {
	var l [][2]string
	for _, a := range actions {
		for _, p := range append(slices.Clone(good), bad...) {
			l = append(l, [2]string{a, p}, [2]string{a, strings.TrimSuffix(p, "/") + "/below"})
		}
	}
	return l
}

// permissions returns permissions of some actions with all paths, deep ones and others.
func permissions(actions ...string) []P {
	var l []P
	for _, a := range actions {
		for _, p := range append(slices.Clone(good), bad...) {
			l = append(l, P{a, p, false}, P{a, p, true})
		}
	}
	return l
}

// P11.1
func TestCheck(t *testing.T) {
	for _, c := range []struct {
		p P
		e api.Errno
	}{
		{P{"read", "/a", true}, api.OK}, {P{"read", "/a", false}, api.OK}, {P{"run", "/", true}, api.OK}, {P{"run", "/", false}, api.OK},
		{P{"abcdefghijkl", "/abcdefghijkl", true}, api.OK}, {P{"r_2", "/a.b/-/_/0", false}, api.OK},
		{P{"read", eight, false}, api.OK}, {P{"read", seven, true}, api.OK}, {P{"read", seven, false}, api.OK},
		{P{"read", eight, true}, api.ErrForm}, {P{"read", eight + "/a", true}, api.ErrForm}, {P{"read", eight + "/a", false}, api.ErrForm},
		{P{"read", "", false}, api.ErrForm}, {P{"read", "", true}, api.ErrForm}, {P{"read", "a", false}, api.ErrForm},
		{P{"read", "/a/", false}, api.ErrForm}, {P{"read", "/a/*", false}, api.ErrForm}, {P{"read", "/*", true}, api.ErrForm},
		{P{"read", "/..", true}, api.ErrForm}, {P{"read", "/A", false}, api.ErrForm}, {P{"read", "/abcdefghijklm", false}, api.ErrForm},
		{P{"", "/a", false}, api.ErrName}, {P{"", "/", true}, api.ErrName}, {P{"Read", "/a", false}, api.ErrName}, {P{"re ad", "/a", false}, api.ErrName},
		{P{"2nd", "/a", false}, api.ErrName}, {P{"abcdefghijklm", "/a", false}, api.ErrName}, {P{"a-b", "/a", true}, api.ErrName},
		{P{"by", "/a", false}, api.ErrName}, {P{"users", "/a", true}, api.ErrName},
		{P{"by", "", false}, api.ErrName}, {P{"", eight, true}, api.ErrName}, {P{}, api.ErrName},
	} {
		if e := permission.Check(c.p); e != c.e {
			t.Errorf("Check(%v): %v, not %v", c.p, e, c.e)
		}
	}
	for _, p := range permissions(actions...) {
		want := api.OK
		if !isAction(p.Action) {
			want = api.ErrName
		} else if !isPermission(p) {
			want = api.ErrForm
		}
		if e := permission.Check(p); e != want {
			t.Errorf("Check(%v): %v, not %v", p, e, want)
		}
	}
}

// P11.2: all permissions and all requests, valid and invalid ones.
func TestCovers(t *testing.T) {
	all, covered := requests(), 0
	for _, p := range permissions("read", "reads", "a", "", "by", "A") {
		for _, r := range all {
			want := covers(p, r[0], r[1])
			if permission.Covers(p, r[0], r[1]) != want {
				t.Fatalf("Covers(%v, %q, %q) is %v", p, r[0], r[1], !want)
			}
			if want {
				covered++
			}
		}
	}
	if covered < 200 {
		t.Errorf("only %d requests are covered", covered)
	}
}

// P11.2: the edges of what lies below a path.
func TestCoversEdges(t *testing.T) {
	for _, c := range []struct {
		p            P
		action, path string
		want         bool
	}{
		{P{"read", "/a", true}, "read", "/a", true}, {P{"read", "/a", true}, "read", "/a/b", true}, {P{"read", "/a", true}, "read", "/a/b/c", true},
		{P{"read", "/a", true}, "read", "/ab", false}, {P{"read", "/a", true}, "read", "/", false}, {P{"read", "/a", true}, "write", "/a", false},
		{P{"read", "/a", false}, "read", "/a", true}, {P{"read", "/a", false}, "read", "/a/b", false}, {P{"read", "/a/b", true}, "read", "/a", false},
		{P{"read", "/", true}, "read", "/", true}, {P{"read", "/", true}, "read", eight, true}, {P{"read", "/", false}, "read", "/a", false},
		{P{"read", seven, true}, "read", eight, true}, {P{"read", eight, false}, "read", eight, true},
		{P{"read", eight, true}, "read", eight, false}, {P{"read", eight, true}, "read", eight + "/a", false}, {P{"read", seven, true}, "read", eight + "/a", false},
		{P{"by", "/a", false}, "by", "/a", false}, {P{"", "/a", true}, "", "/a", false}, {P{"read", "/a/", false}, "read", "/a/", false},
		{P{"read", "", true}, "read", "/a", false}, {P{"read", "/a", true}, "read", "/a/", false}, {P{"read", "/a", true}, "read", "/a/..", false}, {P{"read", "/", true}, "read", "", false},
	} {
		if permission.Covers(c.p, c.action, c.path) != c.want {
			t.Errorf("Covers(%v, %q, %q) is %v", c.p, c.action, c.path, !c.want)
		}
	}
}

// implies reports whether p covers whatever q covers, by trying all requests.
func implies(p, q P) bool {
	if !isPermission(p) || !isPermission(q) {
		return false
	}
	for _, path := range good {
		below := strings.TrimSuffix(path, "/") + "/below"
		if covers(q, q.Action, path) && !covers(p, q.Action, path) || covers(q, q.Action, below) && !covers(p, q.Action, below) {
			return false
		}
	}
	return true
}

// P11.3
func TestImplies(t *testing.T) {
	l := permissions("read", "reads", "by", "")
	for _, p := range l {
		for _, q := range l {
			want := implies(p, q)
			if permission.Implies(p, q) != want {
				t.Fatalf("Implies(%v, %v) is %v", p, q, !want)
			}
		}
	}
	for _, c := range []struct {
		p, q P
		want bool
	}{
		{P{"read", eight, true}, P{"read", eight, true}, false}, {P{"read", eight, true}, P{"read", eight, false}, false},
		{P{"read", seven, true}, P{"read", eight, true}, false}, {P{"read", seven, true}, P{"read", eight, false}, true},
		{P{"read", "/a", true}, P{"read", "/a", false}, true}, {P{"read", "/a", false}, P{"read", "/a", true}, false},
		{P{"read", "/", true}, P{"read", seven, true}, true}, {P{"read", "/a", false}, P{"read", "/a/b", false}, false},
		{P{}, P{}, false}, {P{"by", "/a", true}, P{"by", "/a", true}, false},
	} {
		if permission.Implies(c.p, c.q) != c.want {
			t.Errorf("Implies(%v, %v) is %v", c.p, c.q, !c.want)
		}
	}
}

// P11.3: a partial order of the valid permissions.
func TestImpliesIsAnOrder(t *testing.T) {
	l := permissions("read", "a")
	for _, p := range l {
		if permission.Implies(p, p) != isPermission(p) {
			t.Errorf("%v: not reflexive", p)
		}
		for _, q := range l {
			if !permission.Implies(p, q) {
				continue
			}
			if p != q && permission.Implies(q, p) {
				t.Errorf("%v, %v: each implies the other one", p, q)
			}
			for _, r := range l {
				if permission.Implies(q, r) && !permission.Implies(p, r) {
					t.Errorf("%v, %v, %v: not transitive", p, q, r)
				}
			}
		}
	}
}

// less reports whether p stands before q, as the definition says.
func less(p, q P) bool {
	switch {
	case p.Action != q.Action:
		return p.Action < q.Action
	case p.Path == q.Path:
		return !p.Deep && q.Deep
	case !isPath(p.Path) || !isPath(q.Path):
		return p.Path < q.Path
	case p.Path == "/" || q.Path == "/":
		return p.Path == "/"
	}
	return slices.Compare(strings.Split(p.Path, "/"), strings.Split(q.Path, "/")) < 0
}

// P11.4: all permissions, valid and invalid ones.
func TestCompare(t *testing.T) {
	l := permissions("read", "reads", "", "by", "\xff")
	for _, p := range l {
		for _, q := range l {
			want := 0
			if less(p, q) {
				want = -1
			} else if less(q, p) {
				want = 1
			}
			if (want == 0) != (p == q) {
				t.Fatalf("the model has no order of %v and %v", p, q)
			}
			if c := permission.Compare(p, q); c != want {
				t.Fatalf("Compare(%v, %v) is %d, not %d", p, q, c, want)
			}
		}
	}
}

// P11.4: actions first, then paths name by name, then deep ones; texts if one of the paths is not valid.
func TestOrder(t *testing.T) {
	want := []P{
		{"a", "/b", false},
		{"read", "/", false}, {"read", "/", true}, {"read", "/-", true}, {"read", "/a", false}, {"read", "/a", true},
		{"read", "/a/b", false}, {"read", "/a/b", true}, {"read", "/a/b/c", false}, {"read", "/a/b-", false}, {"read", "/a-b", false},
		{"reads", "/", true},
	}
	l := slices.Clone(want)
	slices.Reverse(l)
	slices.SortFunc(l, permission.Compare)
	if !slices.Equal(l, want) {
		t.Errorf("sorted: %v", l)
	}
	for _, c := range []struct {
		p, q P
		want int
	}{
		{P{"read", "/a/b", false}, P{"read", "/a-b", false}, -1}, // as texts the other way round
		{P{"read", "/a/B", false}, P{"read", "/a-b", false}, 1},  // as texts, as the first path is not valid
		{P{"read", "/a/b", false}, P{"read", "/a-B", false}, 1},
		{P{"read", "/a/B", false}, P{"read", "/a-B", false}, 1},
		{P{"read", "/b", false}, P{"read", "/B", false}, 1},
		{P{"read", "", true}, P{"read", "/", false}, -1},
		{P{"read", "/A", true}, P{"read", "/A", false}, 1},
		{P{"Read", "/b", true}, P{"read", "/a", false}, -1}, // no action: as a text
		{P{"", "/a", false}, P{"", "/a", false}, 0},
		{P{}, P{"", "", true}, -1},
	} {
		if g := permission.Compare(c.p, c.q); g != c.want {
			t.Errorf("Compare(%v, %v) is %d, not %d", c.p, c.q, g, c.want)
		}
		if g := permission.Compare(c.q, c.p); g != -c.want {
			t.Errorf("Compare(%v, %v) is %d, not %d", c.q, c.p, g, -c.want)
		}
	}
}
