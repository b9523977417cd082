package path

import (
	"maps"
	"slices"

	"arbac/api"
)

// Tree is an immutable set of paths that contains the parents of its elements.
type Tree struct {
	// below has the paths of the tree but "/", which is in every tree: so the zero
	// value is a tree, too. Each of them is mapped to true.
	below map[string]bool
}

// NewTree returns the tree that contains "/" alone.
func NewTree() *Tree { return &Tree{} }

// Add returns the tree with a path and all of its ancestors.
func (t *Tree) Add(p string) (*Tree, api.Errno) {
	if t == nil {
		return nil, api.ErrArg
	}
	if !Valid(p) {
		return nil, api.ErrForm
	}
	below := t.copied()
	for p != root {
		below[p] = true
		p, _ = Parent(p)
	}
	return &Tree{below}, api.OK
}

// Has reports whether the tree contains a path.
func (t *Tree) Has(p string) bool {
	return t != nil && (p == root || t.below[p])
}

// Children returns the children of a path.
func (t *Tree) Children(p string) []string {
	return t.those(func(q string) bool {
		up, _ := Parent(q)
		return up == p
	})
}

// Below returns a path and everything below it.
func (t *Tree) Below(p string) []string {
	if !t.Has(p) {
		return nil
	}
	return append([]string{p}, t.those(func(q string) bool { return q != p && Within(q, p) })...)
}

// Len returns the number of paths.
func (t *Tree) Len() int {
	if t == nil {
		return 0
	}
	return 1 + len(t.below)
}

// Remove returns the tree without a path that has no children.
func (t *Tree) Remove(p string) (*Tree, api.Errno) {
	switch {
	case t == nil:
		return nil, api.ErrArg
	case !Valid(p):
		return nil, api.ErrForm
	case p == root:
		return nil, api.ErrArg
	case !t.Has(p):
		return nil, api.ErrNone
	case len(t.Children(p)) > 0:
		return nil, api.ErrState
	}
	below := t.copied()
	delete(below, p)
	return &Tree{below}, api.OK
}

// Equal compares two trees.
func (t *Tree) Equal(o *Tree) bool {
	if t == nil || o == nil {
		return t == nil && o == nil
	}
	return maps.Equal(t.below, o.below)
}

// copied returns a copy of the paths but "/", which is never nil.
func (t *Tree) copied() map[string]bool {
	below := make(map[string]bool, len(t.below))
	maps.Copy(below, t.below)
	return below
}

// those returns the paths but "/" of which keep says so, in the order of Compare.
func (t *Tree) those(keep func(q string) bool) []string {
	if t == nil {
		return nil
	}
	var l []string
	for q := range t.below {
		if keep(q) {
			l = append(l, q)
		}
	}
	slices.SortFunc(l, Compare)
	return l
}
