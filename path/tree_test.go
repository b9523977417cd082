package path_test

import (
	"maps"
	"math/rand"
	"slices"
	"strings"
	"testing"

	"arbac/api"
	"arbac/path"
)

// set is a model of a tree: all of its paths.
type set map[string]bool

// where returns the paths of a set of which keep says so, in order.
func (s set) where(keep func(q string) bool) []string {
	var l []string
	for q := range s {
		if keep(q) {
			l = append(l, q)
		}
	}
	slices.SortFunc(l, func(p, q string) int {
		if before(p, q) {
			return -1
		}
		return 1
	})
	return l
}

// with returns the set with a path and all paths that it lies within.
func (s set) with(p string) set {
	names, _ := model(p)
	m := maps.Clone(s)
	for n := range len(names) + 1 {
		m[text(names[:n])] = true
	}
	return m
}

// without returns the set without a path, or the error.
func (s set) without(p string) (set, api.Errno) {
	_, ok := model(p)
	switch {
	case !ok:
		return nil, api.ErrForm
	case p == "/":
		return nil, api.ErrArg
	case !s[p]:
		return nil, api.ErrNone
	case len(s.where(func(q string) bool { return strings.HasPrefix(q, p+"/") })) > 0:
		return nil, api.ErrState
	}
	m := maps.Clone(s)
	delete(m, p)
	return m, api.OK
}

// check checks that a tree has the paths of a set, by every function that tells of them.
func check(t *testing.T, what string, tree *path.Tree, s set, asked []string) {
	t.Helper()
	if tree == nil || tree.Len() != len(s) {
		t.Fatalf("%s: Len %d, not %d", what, tree.Len(), len(s))
	}
	for _, p := range asked {
		if tree.Has(p) != s[p] {
			t.Fatalf("%s: Has(%q) is %v", what, p, tree.Has(p))
		}
		var children, below []string
		if names, ok := model(p); ok && s[p] {
			inside := strings.TrimSuffix(p, "/") + "/"
			below = s.where(func(q string) bool { return q == p || strings.HasPrefix(q, inside) })
			children = s.where(func(q string) bool {
				l, _ := model(q)
				return len(l) == len(names)+1 && strings.HasPrefix(q, inside)
			})
		}
		if l := tree.Children(p); !slices.Equal(l, children) {
			t.Fatalf("%s: Children(%q): %q, not %q", what, p, l, children)
		}
		if l := tree.Below(p); !slices.Equal(l, below) {
			t.Fatalf("%s: Below(%q): %q, not %q", what, p, l, below)
		}
	}
}

// add returns the tree with further paths.
func add(t *testing.T, tree *path.Tree, l ...string) *path.Tree {
	t.Helper()
	for _, p := range l {
		more, e := tree.Add(p)
		if e != api.OK {
			t.Fatalf("Add(%q): %v", p, e)
		}
		tree = more
	}
	return tree
}

// P7.4, P7.5: many trees, each one from one before it, which does not change.
func TestTrees(t *testing.T) {
	r := rand.New(rand.NewSource(7))
	trees, sets := []*path.Tree{path.NewTree()}, []set{{"/": true}}
	asked := []string{"/", "", "/a/", "a", "/A", "/a/..", "/zz"}
	for _, p := range some() {
		if path.Valid(p) {
			asked = append(asked, p)
		}
	}
	done := 0
	for range 400 {
		i := r.Intn(len(trees))
		p := asked[r.Intn(len(asked))]
		tree, s := trees[i], sets[i]
		if _, ok := model(p); ok {
			more, e := tree.Add(p)
			if e != api.OK {
				t.Fatalf("Add(%q): %v", p, e)
			}
			trees, sets = append(trees, more), append(sets, s.with(p))
		} else if more, e := tree.Add(p); more != nil || e != api.ErrForm {
			t.Fatalf("Add(%q): %v, %v", p, more, e)
		}
		if r.Intn(2) == 0 {
			p = sets[i].where(func(string) bool { return true })[r.Intn(len(s))]
		}
		less, e := tree.Remove(p)
		want, e2 := s.without(p)
		if e != e2 || (less == nil) != (e != api.OK) {
			t.Fatalf("Remove(%q): %v, not %v", p, e, e2)
		}
		if e == api.OK {
			trees, sets = append(trees, less), append(sets, want)
			done++
		}
	}
	if done < 50 {
		t.Errorf("only %d paths were removed", done)
	}
	for i, tree := range trees {
		check(t, "tree", tree, sets[i], asked)
	}
	for range 20000 {
		i, j := r.Intn(len(trees)), r.Intn(len(trees))
		if trees[i].Equal(trees[j]) != maps.Equal(sets[i], sets[j]) {
			t.Fatalf("Equal of %q and %q", trees[i].Below("/"), trees[j].Below("/"))
		}
	}
}

// P7.4
func TestNewTree(t *testing.T) {
	check(t, "NewTree", path.NewTree(), set{"/": true}, []string{"/", "", "/a"})
	if !slices.Equal(path.NewTree().Below("/"), []string{"/"}) {
		t.Error("NewTree does not contain / alone")
	}
	zero := new(path.Tree)
	if !zero.Equal(path.NewTree()) || !add(t, zero, "/a").Equal(add(t, path.NewTree(), "/a")) {
		t.Error("the zero value is not the tree of / alone")
	}
}

// P7.4: a path that is there already, the deepest one, and the errors.
func TestAdd(t *testing.T) {
	deep := strings.Repeat("/a", 8)
	tree := add(t, path.NewTree(), deep, "/b")
	if tree.Len() != 10 {
		t.Errorf("Len is %d", tree.Len())
	}
	for _, p := range tree.Below("/") {
		if !add(t, tree, p).Equal(tree) {
			t.Errorf("Add(%q), which is there, gives another tree", p)
		}
	}
	for _, p := range []string{"", "a", "/a/", "//", "/a/..", "/A", deep + "/a", "/abcdefghijklm"} {
		if more, e := tree.Add(p); more != nil || e != api.ErrForm {
			t.Errorf("Add(%q): %v, %v", p, more, e)
		}
	}
}

// P7.4: the order of the errors, and the second example of the chapter.
func TestRemove(t *testing.T) {
	tree := add(t, path.NewTree(), "/a/b", "/a/c", "/ab", "/a-/b")
	for _, c := range []struct {
		p string
		e api.Errno
	}{
		{"", api.ErrForm}, {"//", api.ErrForm}, {"/a/", api.ErrForm}, {"/a/b/", api.ErrForm}, {"/A", api.ErrForm},
		{"/", api.ErrArg},
		{"/b", api.ErrNone}, {"/a/b/c", api.ErrNone}, {"/a/bc", api.ErrNone},
		{"/a", api.ErrState}, {"/a-", api.ErrState},
	} {
		if less, e := tree.Remove(c.p); less != nil || e != c.e {
			t.Errorf("Remove(%q): %v, %v, not %v", c.p, less, e, c.e)
		}
	}
	if _, e := path.NewTree().Remove("/"); e != api.ErrArg {
		t.Errorf("Remove of / from the tree of / alone: %v", e)
	}
	tree = add(t, path.NewTree(), "/a/b", "/a/c")
	if tree.Len() != 4 || !slices.Equal(tree.Children("/a"), []string{"/a/b", "/a/c"}) {
		t.Errorf("Len %d, Children %q", tree.Len(), tree.Children("/a"))
	}
	for _, p := range []string{"/a/b", "/a/c", "/a"} {
		if _, e := tree.Remove("/a"); p != "/a" && e != api.ErrState {
			t.Errorf("Remove of /a before %q: %v", p, e)
		}
		less, e := tree.Remove(p)
		if e != api.OK || !add(t, less, p).Equal(tree) || less.Equal(tree) {
			t.Fatalf("Remove(%q): %v", p, e)
		}
		tree = less
	}
	if !tree.Equal(path.NewTree()) {
		t.Errorf("left: %q", tree.Below("/"))
	}
}

// P7.5: the order is that of Compare, not that of bytes.
func TestTreeOrder(t *testing.T) {
	tree := add(t, path.NewTree(), "/a-b", "/a/z", "/a.b/c", "/a/b/c", "/aa")
	want := []string{"/", "/a", "/a/b", "/a/b/c", "/a/z", "/a-b", "/a.b", "/a.b/c", "/aa"}
	if l := tree.Below("/"); !slices.Equal(l, want) {
		t.Errorf("Below: %q, not %q", l, want)
	}
	if l := tree.Children("/"); !slices.Equal(l, []string{"/a", "/a-b", "/a.b", "/aa"}) {
		t.Errorf("Children: %q", l)
	}
	if l := tree.Below("/a"); !slices.Equal(l, []string{"/a", "/a/b", "/a/b/c", "/a/z"}) {
		t.Errorf("Below: %q", l)
	}
}

// P7.4, P7.5, Rules: a tree is immutable, and results are new memory.
func TestTreeResultsAreNew(t *testing.T) {
	tree := add(t, path.NewTree(), "/a/b", "/a/c")
	children, below := tree.Children("/a"), tree.Below("/a")
	for i := range children {
		children[i] = "/x"
	}
	for i := range below {
		below[i] = "/x"
	}
	check(t, "tree", tree, set{"/": true, "/a": true, "/a/b": true, "/a/c": true}, []string{"/", "/a", "/a/b", "/x"})
}

// P7.4, P7.5: what a nil tree does.
func TestNilTree(t *testing.T) {
	var tree *path.Tree
	for _, p := range []string{"/", "/a", "", "//"} {
		if more, e := tree.Add(p); more != nil || e != api.ErrArg {
			t.Errorf("Add(%q): %v, %v", p, more, e)
		}
		if less, e := tree.Remove(p); less != nil || e != api.ErrArg {
			t.Errorf("Remove(%q): %v, %v", p, less, e)
		}
		if tree.Has(p) || len(tree.Children(p)) != 0 || len(tree.Below(p)) != 0 {
			t.Errorf("something about %q", p)
		}
	}
	if tree.Len() != 0 || !tree.Equal(nil) || tree.Equal(path.NewTree()) || path.NewTree().Equal(nil) {
		t.Error("Len or Equal of a nil tree")
	}
}
