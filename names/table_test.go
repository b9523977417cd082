package names_test

import (
	"bytes"
	"math"
	"math/rand"
	"slices"
	"strconv"
	"strings"
	"testing"

	"arbac/api"
	"arbac/names"
)

// of returns the table of names.
func of(t *testing.T, l ...string) *names.Table {
	t.Helper()
	table, e := names.Of(l, api.MaxUsers)
	if e != api.OK || table == nil {
		t.Fatalf("Of(%q): %v", l, e)
	}
	return table
}

// numbered returns n different names, in no ascending order.
func numbered(n int) []string {
	l := make([]string, n)
	for i := range l {
		l[i] = "n" + strconv.Itoa(i*7919%1000)
	}
	return l
}

// check checks that a table has the names of a list, by every function that tells of them.
func check(t *testing.T, what string, table *names.Table, l []string) {
	t.Helper()
	if table == nil || table.Len() != len(l) || !slices.Equal(table.Names(), l) {
		t.Fatalf("%s: Len %d, Names %q, not %q", what, table.Len(), table.Names(), l)
	}
	for i, s := range l {
		if n, ok := table.Number(s); n != i+1 || !ok {
			t.Fatalf("%s: Number(%q): %d, %v", what, s, n, ok)
		}
		if x, ok := table.Name(i + 1); x != s || !ok {
			t.Fatalf("%s: Name(%d): %q, %v", what, i+1, x, ok)
		}
	}
	for _, s := range []string{"", "by", "unknown", "A", "n"} {
		if n, ok := table.Number(s); !slices.Contains(l, s) && (n != 0 || ok) {
			t.Fatalf("%s: Number(%q): %d, %v", what, s, n, ok)
		}
	}
	for _, n := range []int{math.MinInt, -1, 0, len(l) + 1, len(l) + 2, 257, math.MaxInt} {
		if s, ok := table.Name(n); s != "" || ok {
			t.Fatalf("%s: Name(%d): %q, %v", what, n, s, ok)
		}
	}
	if same := of(t, l...); !table.Equal(same) || !same.Equal(table) {
		t.Fatalf("%s: not equal to the table of its names", what)
	}
}

// P8.2
func TestNewAndAdd(t *testing.T) {
	check(t, "New", names.New(), nil)
	check(t, "zero value", new(names.Table), nil)
	l := numbered(api.MaxUsers)
	tables := []*names.Table{names.New()}
	for i, s := range l {
		table, n, e := tables[i].Add(s, api.MaxUsers)
		if n != i+1 || e != api.OK {
			t.Fatalf("Add(%q): %d, %v", s, n, e)
		}
		tables = append(tables, table)
	}
	for i, table := range tables {
		check(t, "after Add", table, l[:i])
	}
	// Two tables that are made of the same one know nothing of each other.
	first, _, _ := tables[9].Add("first", 10)
	second, _, _ := tables[9].Add("second", 10)
	check(t, "first", first, append(slices.Clone(l[:9]), "first"))
	check(t, "second", second, append(slices.Clone(l[:9]), "second"))
	check(t, "before both", tables[9], l[:9])
	zero, n, e := new(names.Table).Add("a", 1)
	if n != 1 || e != api.OK {
		t.Fatalf("Add to the zero value: %d, %v", n, e)
	}
	check(t, "zero value and a", zero, []string{"a"})
}

// P8.2: the first of the errors.
func TestAddErrors(t *testing.T) {
	two, full := of(t, "clerk", "auditor"), of(t, numbered(256)...)
	for _, c := range []struct {
		table *names.Table
		s     string
		most  int
		e     api.Errno
	}{
		{two, "", 63, api.ErrName}, {two, "by", 63, api.ErrName}, {two, "A", 63, api.ErrName},
		{two, "abcdefghijklm", 63, api.ErrName}, {two, "all", 2, api.ErrName}, {two, "_", -1, api.ErrName},
		{full, "users", 300, api.ErrName},
		{two, "clerk", 63, api.ErrExists}, {two, "auditor", 2, api.ErrExists}, {two, "clerk", 0, api.ErrExists},
		{full, "n0", 256, api.ErrExists}, {full, "n919", 0, api.ErrExists},
		{two, "third", 2, api.ErrFull}, {two, "third", 1, api.ErrFull}, {two, "third", 0, api.ErrFull},
		{two, "third", -1, api.ErrFull}, {two, "third", math.MinInt, api.ErrFull},
		{names.New(), "a", 0, api.ErrFull}, {names.New(), "a", -1, api.ErrFull}, {new(names.Table), "a", 0, api.ErrFull},
		{full, "third", 256, api.ErrFull}, {full, "third", 257, api.ErrFull}, {full, "third", math.MaxInt, api.ErrFull},
		{two, "third", 3, api.OK}, {two, "third", 256, api.OK}, {two, "third", math.MaxInt, api.OK},
	} {
		table, n, e := c.table.Add(c.s, c.most)
		if e != c.e || (table == nil) != (e != api.OK) || e != api.OK && n != 0 {
			t.Errorf("Add(%q, %d) to %d names: %v, %d, %v, not %v", c.s, c.most, c.table.Len(), table, n, e, c.e)
		}
	}
	check(t, "two", two, []string{"clerk", "auditor"})
}

// P8.2, P8.5: the second example of the chapter.
func TestTableExample(t *testing.T) {
	one, n, e := names.New().Add("clerk", 2)
	if n != 1 || e != api.OK {
		t.Fatalf("Add(clerk): %d, %v", n, e)
	}
	two, n, e := one.Add("auditor", 2)
	if n != 2 || e != api.OK {
		t.Fatalf("Add(auditor): %d, %v", n, e)
	}
	if p := two.Bytes(); string(p) != "\x02\x05clerk\x07auditor" {
		t.Errorf("Bytes: %x", p)
	}
	if _, _, e := two.Add("clerk", 2); e != api.ErrExists {
		t.Errorf("Add(clerk) again: %v", e)
	}
	if _, _, e := two.Add("by", 2); e != api.ErrName {
		t.Errorf("Add(by): %v", e)
	}
	if _, _, e := two.Add("third", 2); e != api.ErrFull {
		t.Errorf("Add(third): %v", e)
	}
}

// P8.3: Of is Add for one name after the other.
func TestOf(t *testing.T) {
	lists := [][]string{
		nil, {"a"}, {"b", "a"}, {"a", "b", "a"}, {"a", "by", "a"}, {"by"}, {"a", "a", "by"}, {"", "a"},
		numbered(255), numbered(256), numbered(257), append(numbered(256), "n0"), append(numbered(256), "by"),
		append(numbered(300), "by"), strings.Split("a b c d e f g h i j", " "),
	}
	for _, l := range lists {
		for _, most := range []int{math.MinInt, -1, 0, 1, 2, 3, 9, 10, 63, 255, 256, 257, math.MaxInt} {
			want, e := names.New(), api.OK
			for _, s := range l {
				if want, _, e = want.Add(s, most); e != api.OK {
					break
				}
			}
			before := slices.Clone(l)
			table, e2 := names.Of(l, most)
			if e2 != e || !table.Equal(want) {
				t.Fatalf("Of(%q, %d): %v, not %v", l, most, e2, e)
			}
			if !slices.Equal(l, before) {
				t.Fatalf("Of(%q) has changed its argument", before)
			}
			if e == api.OK {
				check(t, "Of", table, l)
			}
		}
	}
}

// P8.3: an argument is not kept.
func TestOfCopies(t *testing.T) {
	l := []string{"a", "b"}
	table := of(t, l...)
	l[0], l[1] = "x", "y"
	check(t, "table", table, []string{"a", "b"})
}

// P8.4: a result is new memory.
func TestNamesAreNew(t *testing.T) {
	table := of(t, "a", "b", "c")
	l := table.Names()
	clear(l)
	_ = append(l[:1], "x")
	check(t, "table", table, []string{"a", "b", "c"})
}

// P8.4: the same names with the same numbers.
func TestEqual(t *testing.T) {
	lists := [][]string{nil, {"a"}, {"b"}, {"a", "b"}, {"b", "a"}, {"a", "b", "c"}, {"a", "c", "b"}, {"ab"}}
	for i, l := range lists {
		for j, m := range lists {
			if of(t, l...).Equal(of(t, m...)) != (i == j) {
				t.Errorf("Equal of %q and %q", l, m)
			}
		}
	}
}

// encoded returns the bytes of a list of texts, all of them short, as the chapter describes them.
func encoded(l ...string) []byte {
	var p []byte
	if len(l) > 127 {
		p = append(p, byte(128|len(l)>>7))
	}
	p = append(p, byte(len(l)&127))
	for _, s := range l {
		p = append(append(p, byte(len(s))), s...)
	}
	return p
}

// P8.5
func TestBytes(t *testing.T) {
	for _, l := range [][]string{nil, {"a"}, {"b", "a"}, {"abcdefghijkl", "z_9"}, numbered(127), numbered(128), numbered(256)} {
		table := of(t, l...)
		p := table.Bytes()
		if !bytes.Equal(p, encoded(l...)) {
			t.Errorf("Bytes of %q: %x", l, p)
		}
		again, e := names.Read(p)
		if e != api.OK {
			t.Fatalf("Read of the bytes of %q: %v", l, e)
		}
		clear(p)
		check(t, "read", again, l)
		if !bytes.Equal(table.Bytes(), encoded(l...)) {
			t.Errorf("a caller has changed the bytes of %q", l)
		}
	}
	if p := new(names.Table).Bytes(); !bytes.Equal(p, []byte{0}) {
		t.Errorf("Bytes of the zero value: %x", p)
	}
}

// P8.5: bytes of no table.
func TestReadErrors(t *testing.T) {
	good := encoded("clerk", "auditor")
	lists := [][]byte{
		nil, {}, {1}, {0, 0}, {0x80, 0}, {0x80, 1, 1, 'a'}, {1, 0}, {1, 1}, {1, 2, 'a'}, {2, 1, 'a'},
		encoded(""), encoded("by"), encoded("a", "a"), encoded("a", "b", "a"), encoded("A"), encoded("abcdefghijklm"),
		encoded("a", "2"), encoded(numbered(257)...), append(encoded(numbered(256)...), 0), append(slices.Clone(good), 0),
		{1, 0x80, 1, 'a'}, {0xff, 0xff, 0xff, 0xff, 0xff, 0xff, 0xff, 0xff, 0x7f}, bytes.Repeat([]byte{0xff}, 20),
		{0x81, 0xff, 0xff, 0xff, 0xff, 0xff, 0xff, 0xff, 0xff, 0x7f}, {1, 0x87, 0xff, 0xff, 0xff, 0x7f, 'a'},
	}
	for n := range good {
		lists = append(lists, good[:n])
	}
	for _, p := range lists {
		before := bytes.Clone(p)
		if table, e := names.Read(p); table != nil || e != api.ErrForm {
			t.Errorf("Read(%.40x): %v, %v", p, table, e)
		}
		if !bytes.Equal(p, before) {
			t.Errorf("Read(%.40x) has changed its argument", before)
		}
	}
}

// P8.5: whatever is read has exactly these bytes.
func TestReadIsCanonical(t *testing.T) {
	r := rand.New(rand.NewSource(8))
	read := 0
	for range 100000 {
		p := encoded("ab", "c", "b")
		for range 1 + r.Intn(3) {
			p[r.Intn(len(p))] = []byte{0, 1, 2, 3, 'a', 'b', 'c', '_', 0x80, byte(r.Intn(256))}[r.Intn(10)]
		}
		p = p[:len(p)-r.Intn(3)*r.Intn(2)]
		table, e := names.Read(p)
		if e == api.OK {
			read++
			check(t, "read", table, table.Names())
		}
		if e == api.OK && !bytes.Equal(table.Bytes(), p) || e != api.OK && (table != nil || e != api.ErrForm) {
			t.Fatalf("Read(%x): %v, %v", p, table.Names(), e)
		}
	}
	if read < 1000 {
		t.Errorf("only %d tables were read", read)
	}
}

// P8.2, P8.4, P8.5: what a nil table does.
func TestNilTable(t *testing.T) {
	var table *names.Table
	for _, s := range []string{"a", "", "by"} {
		if more, n, e := table.Add(s, 10); more != nil || n != 0 || e != api.ErrArg {
			t.Errorf("Add(%q): %v, %d, %v", s, more, n, e)
		}
		if n, ok := table.Number(s); n != 0 || ok {
			t.Errorf("Number(%q): %d, %v", s, n, ok)
		}
	}
	for n := range 3 {
		if s, ok := table.Name(n); s != "" || ok {
			t.Errorf("Name(%d): %q, %v", n, s, ok)
		}
	}
	if table.Len() != 0 || len(table.Names()) != 0 || len(table.Bytes()) != 0 {
		t.Error("a nil table has something")
	}
	if !table.Equal(nil) || table.Equal(names.New()) || names.New().Equal(nil) {
		t.Error("Equal of a nil table")
	}
}
