package path_test

import (
	"regexp"
	"slices"
	"strings"
	"testing"

	"arbac/api"
	"arbac/path"
)

// shape is what paths with names look like, but for the names "." and "..".
var shape = regexp.MustCompile(`\A(/[a-z0-9_.-]{1,12}){1,8}\z`)

// model returns the names of a path as the definition says, and reports whether p is a path.
func model(p string) ([]string, bool) {
	if p == "/" {
		return nil, true
	}
	names := strings.FieldsFunc(p, func(c rune) bool { return c == '/' })
	if !shape.MatchString(p) || slices.Contains(names, ".") || slices.Contains(names, "..") {
		return nil, false
	}
	return names, true
}

// text returns the path with names.
func text(names []string) string {
	s := ""
	for _, n := range names {
		s += "/" + n
	}
	return max(s, "/")
}

// short returns all texts of at most n of the characters.
func short(characters string, n int) []string {
	out := []string{""}
	for first := 0; n > 0; n-- {
		last := len(out)
		for _, s := range out[first:last] {
			for _, c := range characters {
				out = append(out, s+string(c))
			}
		}
		first = last
	}
	return out
}

// texts returns paths and other texts: all short ones, those at the limits, every
// byte as a name and in a name.
func texts() []string {
	deep := strings.Repeat("/a", 8)
	long := "/abcdefghijkl"
	out := append(short("/a.-B", 5),
		deep, deep+"/", deep+"/a", deep+"/a/a", deep+"//", deep+"/A", deep[1:],
		long, long+"m", long+"/b", "/a"+long, "/a"+long+"m", strings.Repeat(long, 8), strings.Repeat(long, 9),
		"/...", "/a/...", "/..a", "/a..", "/.a", "/a.", "/a/..", "/../a", "/a/./b", "/-", "/--", "/_", "/_/-/0",
		"/a\x00", "/a\n", "\n/a", " /a", "/a ", "/ä", "/\xff", "/a\\b", "/aé", "/ａ", "a/b", "//", "///a", "/*", "/a/*",
		strings.Repeat("/", 9), strings.Repeat("/", 1000), "/"+strings.Repeat("a", 100000), strings.Repeat("/a", 100000),
	)
	for c := range 256 {
		out = append(out, "/"+string([]byte{byte(c)}), "/x"+string([]byte{byte(c)})+"y")
	}
	return out
}

// P7.1
func TestNamesOfPaths(t *testing.T) {
	paths := 0
	for _, p := range texts() {
		names, ok := model(p)
		depth := -1
		if ok {
			depth = len(names)
			paths++
		}
		if path.Valid(p) != ok || path.Depth(p) != depth || !slices.Equal(path.Names(p), names) {
			t.Errorf("%.40q: Valid %v, Depth %d, Names %q, not %v, %q", p, path.Valid(p), path.Depth(p), path.Names(p), ok, names)
		}
		if !ok {
			continue
		}
		if s, e := path.Join(names); s != p || e != api.OK {
			t.Errorf("Join(%q): %q, %v", names, s, e)
		}
	}
	if paths < 50 {
		t.Errorf("only %d paths are tested", paths)
	}
}

// P7.1
func TestParentAndAncestors(t *testing.T) {
	for _, p := range texts() {
		names, _ := model(p)
		var above []string
		for n := range names {
			above = append(above, text(names[:n]))
		}
		if !slices.Equal(path.Ancestors(p), above) {
			t.Errorf("Ancestors(%.40q): %q, not %q", p, path.Ancestors(p), above)
		}
		want := ""
		if len(above) > 0 {
			want = above[len(above)-1]
		}
		if up, ok := path.Parent(p); up != want || ok != (len(above) > 0) {
			t.Errorf("Parent(%.40q): %q, %v, not %q", p, up, ok, want)
		}
	}
}

// P7.1
func TestJoin(t *testing.T) {
	eight := strings.Split("a b c d e f g h", " ")
	many := slices.Repeat([]string{"A"}, 9)
	for _, c := range []struct {
		names []string
		p     string
		e     api.Errno
	}{
		{nil, "/", api.OK},
		{[]string{}, "/", api.OK},
		{[]string{"a", "b.c"}, "/a/b.c", api.OK},
		{[]string{"...", "-", "_", "0"}, "/.../-/_/0", api.OK},
		{[]string{"abcdefghijkl"}, "/abcdefghijkl", api.OK},
		{eight, "/a/b/c/d/e/f/g/h", api.OK},
		{append(slices.Clone(eight), "i"), "", api.ErrLimit},
		{many, "", api.ErrLimit},
		{slices.Repeat([]string{""}, 10), "", api.ErrLimit},
		{many[:8], "", api.ErrForm},
		{[]string{""}, "", api.ErrForm},
		{[]string{"a", ""}, "", api.ErrForm},
		{[]string{"", "a"}, "", api.ErrForm},
		{[]string{"a", "."}, "", api.ErrForm},
		{[]string{"..", "a"}, "", api.ErrForm},
		{[]string{"a/b"}, "", api.ErrForm},
		{[]string{"/"}, "", api.ErrForm},
		{[]string{"/a"}, "", api.ErrForm},
		{[]string{"abcdefghijklm"}, "", api.ErrForm},
		{[]string{"a b"}, "", api.ErrForm},
		{[]string{"a", "b", "C"}, "", api.ErrForm},
	} {
		before := slices.Clone(c.names)
		if p, e := path.Join(c.names); p != c.p || e != c.e {
			t.Errorf("Join(%q): %q, %v, not %q, %v", c.names, p, e, c.p, c.e)
		}
		if !slices.Equal(c.names, before) {
			t.Errorf("Join(%q) has changed its argument", before)
		}
	}
}

// some returns paths that are near to each other, and texts that are no paths.
func some() []string {
	deep := strings.Repeat("/a", 8)
	return append(short("/a.-", 4),
		"/a/b", "/a/c", "/a-b", "/a/b/c", "/a/b.c", "/ab", "/ab/c", "/b", "/b/a", "/a0", "/a_", "/az", "/a/b/c/d/e/f/g/h", "/a/b/c/d/e/f/g",
		deep, deep+"/a", deep[:14], "/abcdefghijkl", "/abcdefghijkl/a", "/abcdefghijklm", "/A", "/B/", "zz", "\xff", "\x00",
	)
}

// before reports whether p stands before q, as the definition says.
func before(p, q string) bool {
	a, isP := model(p)
	b, isQ := model(q)
	if !isP || !isQ {
		return isP || !isQ && p < q
	}
	for i := range min(len(a), len(b)) {
		if a[i] != b[i] {
			return a[i] < b[i]
		}
	}
	return len(a) < len(b)
}

// P7.2
func TestWithinAndCommon(t *testing.T) {
	for _, p := range some() {
		a, isP := model(p)
		for _, q := range some() {
			b, isQ := model(q)
			n := 0
			for n < min(len(a), len(b)) && a[n] == b[n] {
				n++
			}
			if within := isP && isQ && n == len(b); path.Within(p, q) != within {
				t.Fatalf("Within(%q, %q) is %v", p, q, !within)
			}
			want := ""
			if isP && isQ {
				want = text(a[:n])
			}
			if s, ok := path.Common(p, q); s != want || ok != (isP && isQ) {
				t.Fatalf("Common(%q, %q): %q, %v, not %q", p, q, s, ok, want)
			}
		}
	}
}

// P7.3
func TestCompare(t *testing.T) {
	for _, p := range some() {
		for _, q := range some() {
			want := 0
			if before(p, q) {
				want = -1
			} else if before(q, p) {
				want = 1
			}
			if (want == 0) != (p == q) {
				t.Fatalf("no order of %q and %q", p, q)
			}
			if c := path.Compare(p, q); c != want {
				t.Fatalf("Compare(%q, %q) is %d, not %d", p, q, c, want)
			}
			if p != q && path.Within(q, p) && path.Compare(p, q) != -1 {
				t.Fatalf("Compare(%q, %q): the second one lies within the first one", p, q)
			}
		}
	}
}

// P7.3: paths by names, not by bytes (- and . are less than /), and what is no path behind them.
func TestOrder(t *testing.T) {
	want := []string{
		"/", "/-", "/-/z", "/a", "/a/-", "/a/b", "/a/b/z", "/a/b-", "/a/ba", "/a-", "/a-/b", "/a.", "/a0", "/a_", "/aa", "/b",
		"", "/a/", "//", "/A", "a", "z/", "\xff",
	}
	slices.Sort(want[17:])
	l := slices.Clone(want)
	slices.Reverse(l)
	slices.SortFunc(l, path.Compare)
	if !slices.Equal(l, want) {
		t.Errorf("sorted: %q, not %q", l, want)
	}
}

// P7.1 to P7.3: the first example of the chapter.
func TestPathExample(t *testing.T) {
	if l := path.Names("/a/b.c"); !slices.Equal(l, []string{"a", "b.c"}) {
		t.Errorf("Names: %q", l)
	}
	if p, ok := path.Parent("/a/b.c"); p != "/a" || !ok {
		t.Errorf("Parent: %q, %v", p, ok)
	}
	if l := path.Ancestors("/a/b.c"); !slices.Equal(l, []string{"/", "/a"}) {
		t.Errorf("Ancestors: %q", l)
	}
	for _, p := range []string{"/a/", "a", "", "/a/.."} {
		if path.Valid(p) {
			t.Errorf("%q is a path", p)
		}
	}
	if path.Within("/ab", "/a") {
		t.Error("/ab lies within /a")
	}
	if p, ok := path.Common("/a/b", "/a/c"); p != "/a" || !ok {
		t.Errorf("Common: %q, %v", p, ok)
	}
	if c := path.Compare("/a/b", "/a-b"); c != -1 {
		t.Errorf("Compare: %d", c)
	}
}

// Rules: a result is new memory.
func TestNamesAreNew(t *testing.T) {
	l, up := path.Names("/a/b"), path.Ancestors("/a/b")
	l[0], up[0] = "x", "x"
	if !slices.Equal(path.Names("/a/b"), []string{"a", "b"}) || !slices.Equal(path.Ancestors("/a/b"), []string{"/", "/a"}) {
		t.Error("a result has changed another one")
	}
}
