package names

import (
	"maps"
	"slices"

	"arbac/api"
	"arbac/wire"
)

// Table is an immutable registry of names.
type Table struct {
	// names[i] has the number i + 1; numbers has the numbers of the names.
	names   []string
	numbers map[string]int
}

// New returns a table without names.
func New() *Table {
	return &Table{numbers: map[string]int{}}
}

// Of returns the table with these names, in this order.
func Of(l []string, most int) (*Table, api.Errno) {
	t := New()
	for _, s := range l {
		if e := t.refuses(s, most); e != api.OK {
			return nil, e
		}
		t.put(s)
	}
	return t, api.OK
}

// Add returns the table with one name more, and its number.
func (t *Table) Add(s string, most int) (*Table, int, api.Errno) {
	if t == nil {
		return nil, 0, api.ErrArg
	}
	if e := t.refuses(s, most); e != api.OK {
		return nil, 0, e
	}
	n := New()
	n.names = slices.Clone(t.names)
	maps.Copy(n.numbers, t.numbers)
	n.put(s)
	return n, n.Len(), api.OK
}

// Number returns the number of a name.
func (t *Table) Number(s string) (int, bool) {
	if t == nil {
		return 0, false
	}
	n, ok := t.numbers[s]
	return n, ok
}

// Name returns the name with a number.
func (t *Table) Name(n int) (string, bool) {
	if n < 1 || n > t.Len() {
		return "", false
	}
	return t.names[n-1], true
}

// Len returns how many names there are.
func (t *Table) Len() int {
	if t == nil {
		return 0
	}
	return len(t.names)
}

// Names returns the names by their numbers.
func (t *Table) Names() []string {
	if t == nil {
		return nil
	}
	return slices.Clone(t.names)
}

// Equal compares two tables.
func (t *Table) Equal(o *Table) bool {
	if t == nil || o == nil {
		return t == nil && o == nil
	}
	return slices.Equal(t.names, o.names)
}

// Bytes returns the bytes of the table.
func (t *Table) Bytes() []byte {
	if t == nil {
		return nil
	}
	w := wire.NewWriter()
	w.Uint(uint64(t.Len()))
	for _, s := range t.names {
		w.String(s)
	}
	return w.Out()
}

// Read returns the table with these bytes.
func Read(p []byte) (*Table, api.Errno) {
	r := wire.NewReader(p)
	l := make([]string, r.Count(api.MaxUsers))
	for i := range l {
		l[i] = r.String(api.MaxName)
	}
	t, e := Of(l, api.MaxUsers)
	if e != api.OK || r.End() != api.OK {
		return nil, api.ErrForm
	}
	return t, api.OK
}

// refuses returns the error with which a name cannot be added.
func (t *Table) refuses(s string, most int) api.Errno {
	if !Valid(s) {
		return api.ErrName
	}
	if _, ok := t.Number(s); ok {
		return api.ErrExists
	}
	if t.Len() >= most || t.Len() >= api.MaxUsers {
		return api.ErrFull
	}
	return api.OK
}

// put adds a name to a table that nobody else has yet.
func (t *Table) put(s string) {
	t.names = append(t.names, s)
	t.numbers[s] = t.Len()
}
