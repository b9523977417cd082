package compile

import (
	"maps"

	"arbac/bits"
	"arbac/grant"
	"arbac/path"
)

// object is a node of the trie of paths. It is immutable, and tables share it.
//
// A nil object has no grants, nor does anything below it; all others do.
type object struct {
	row row
	// below has the objects below this one by the next name of their paths.
	below map[string]*object
}

// row has, by action, the roles with grants on one object.
type row map[string]holders

// holders are the roles with a grant for the object alone, and those with a deep one.
type holders struct{ alone, deep bits.Set }

// placed is a row with its place: the names that lead to it.
type placed struct {
	names []string
	row   row
}

// covering returns the roles with a grant that covers an action on the object to which the names
// lead, and those with one that covers the action on everything below that object.
func (o *object) covering(action string, names []string) (at, below bits.Set) {
	for ; o != nil; o, names = o.below[names[0]], names[1:] {
		held := o.row[action]
		below = below.Or(held.deep)
		if len(names) == 0 {
			return below.Or(held.alone), below
		}
	}
	return below, below
}

// with returns the object with rows in their places instead of those that are there.
func (o *object) with(l []placed) *object {
	if len(l) == 0 {
		return o
	}
	n := object{below: map[string]*object{}}
	if o != nil {
		n = object{o.row, maps.Clone(o.below)}
	}
	deeper := map[string][]placed{}
	for _, x := range l {
		if len(x.names) == 0 {
			n.row = x.row
			continue
		}
		deeper[x.names[0]] = append(deeper[x.names[0]], placed{x.names[1:], x.row})
	}
	for name, l := range deeper {
		n.below[name] = n.below[name].with(l)
		if n.below[name] == nil {
			delete(n.below, name)
		}
	}
	if len(n.row) == 0 && len(n.below) == 0 {
		return nil
	}
	return &n
}

// regranted returns the rows of a book at those paths where another book has other grants.
func regranted(was, is *grant.Book) []placed {
	gone := map[grant.Entry]bool{}
	for _, e := range was.Entries() {
		gone[e] = true
	}
	rows := map[string]row{}
	entries := is.Entries()
	for _, e := range entries {
		if !gone[e] {
			rows[e.Permission.Path] = row{}
		}
		delete(gone, e)
	}
	for e := range gone {
		rows[e.Permission.Path] = row{}
	}
	for _, e := range entries {
		if r, ok := rows[e.Permission.Path]; ok {
			r.put(e)
		}
	}
	var l []placed
	for p, r := range rows {
		l = append(l, placed{path.Names(p), r})
	}
	return l
}

// put puts a grant into a row that nobody else has yet.
func (r row) put(e grant.Entry) {
	held := r[e.Permission.Action]
	if e.Permission.Deep {
		held.deep = held.deep.With(e.Role)
	} else {
		held.alone = held.alone.With(e.Role)
	}
	r[e.Permission.Action] = held
}
