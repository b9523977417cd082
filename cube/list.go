package cube

import (
	"cmp"
	"slices"

	"arbac/api"
	"arbac/bits"
)

// maxCounted is the greatest number of roles whose sets are counted.
const maxCounted = 16

// Split returns disjoint cubes for the sets that satisfy c and no cube of a list.
func Split(c Cube, l []Cube) ([]Cube, api.Errno) {
	if Empty(c) {
		return nil, api.OK
	}
	parts := []Cube{c}
	for _, b := range l {
		var left []Cube
		for _, x := range parts {
			left = append(left, Minus(x, b)...)
			if len(left) > api.MaxCubes {
				return nil, api.ErrLimit
			}
		}
		parts = left
	}
	return parts, api.OK
}

// Covered reports whether whatever satisfies c satisfies some cube of a list.
func Covered(c Cube, l []Cube) bool {
	return Empty(c) || everything(beyond(c, l))
}

// Simple returns the cubes of a list that are not within another one.
func Simple(l []Cube) []Cube {
	live := slices.DeleteFunc(slices.Clone(l), Empty)
	// A cube is within others with fewer literals only, and within its equals.
	slices.SortFunc(live, bySize)
	var out []Cube
	kept := map[int][]Cube{} // the cubes of out, by their first role
	for _, c := range live {
		if !within(c, kept) {
			out = append(out, c)
			kept[first(c)] = append(kept[first(c)], c)
		}
	}
	slices.SortFunc(out, Compare)
	return out
}

// Mentioned returns all roles that cubes mention.
func Mentioned(l []Cube) bits.Set {
	return roles(literals(l))
}

// Count returns how many subsets of a set satisfy some cube of a list.
func Count(l []Cube, over bits.Set) (int, api.Errno) {
	if over.Len() > maxCounted {
		return 0, api.ErrLimit
	}
	return count(beyond(Cube{No: Mentioned(l).Minus(over)}, l), over), api.OK
}

// literals returns the cube with all literals of a list.
func literals(l []Cube) Cube {
	var all Cube
	for _, c := range l {
		all = Cube{all.Yes.Or(c.Yes), all.No.Or(c.No)}
	}
	return all
}

// beyond returns what the cubes of a list ask for that c does not, leaving out those that no
// set satisfies together with c. Among the sets that satisfy c, which is not empty, the same
// ones satisfy the result as the list, and it does not mention the roles of c.
func beyond(c Cube, l []Cube) []Cube {
	var out []Cube
	for _, b := range l {
		if !Empty(b) && !b.Yes.Meets(c.No) && !b.No.Meets(c.Yes) {
			out = append(out, without(b, c))
		}
	}
	return out
}

// everything reports whether every set satisfies a list without empty cubes.
func everything(l []Cube) bool {
	switch {
	case len(l) == 0:
		return false
	case slices.ContainsFunc(l, full):
		return true
	}
	c := unhelped(l)
	if full(c) {
		c = hardest(l)
	}
	if !full(c) {
		return Covered(c, l)
	}
	r := pivot(l)
	return Covered(Cube{Yes: bits.Of(r)}, l) && Covered(Cube{No: bits.Of(r)}, l)
}

// unhelped returns a cube for the sets that satisfy no cube of the list with one literal only.
func unhelped(l []Cube) Cube {
	var c Cube
	for _, b := range l {
		if size(b) == 1 {
			c = Cube{c.Yes.Or(b.No), c.No.Or(b.Yes)}
		}
	}
	return c
}

// hardest returns the opposite of each literal whose opposite no cube of a list has. Such a
// literal only helps to satisfy the list: if the sets without it do, so do those with it.
func hardest(l []Cube) Cube {
	all := literals(l)
	return Cube{Yes: all.No.Minus(all.Yes), No: all.Yes.Minus(all.No)}
}

// count returns how many subsets of a set satisfy a list that mentions only its members, and has no empty cubes.
func count(l []Cube, over bits.Set) int {
	switch {
	case len(l) == 0:
		return 0
	case slices.ContainsFunc(l, full):
		return 1 << over.Len()
	}
	r := pivot(l)
	over = over.Without(r)
	return count(beyond(Cube{Yes: bits.Of(r)}, l), over) + count(beyond(Cube{No: bits.Of(r)}, l), over)
}

// pivot returns the role that cubes mention most, where a cube counts four times as much as
// one with a literal more: to decide on such a role soon satisfies cubes, or leaves them out.
func pivot(l []Cube) int {
	mentioned := Mentioned(l)
	best, _ := mentioned.Greatest()
	weight := make([]int, best+1)
	for _, c := range l {
		for r := range roles(c).All() {
			weight[r] += 1 << max(0, 20-2*size(c))
		}
	}
	for r := range mentioned.All() {
		if weight[r] > weight[best] {
			best = r
		}
	}
	return best
}

// bySize compares the numbers of literals.
func bySize(a, b Cube) int {
	return cmp.Compare(size(a), size(b))
}

// within reports whether a cube is within one of some cubes that are kept by their first role.
func within(c Cube, kept map[int][]Cube) bool {
	// What c is within mentions no other roles than c does. The full cube is kept at 0.
	for r := range roles(c).With(0).All() {
		if slices.ContainsFunc(kept[r], func(b Cube) bool { return Within(c, b) }) {
			return true
		}
	}
	return false
}

// first returns the least role that a cube mentions; 0 for the full cube.
func first(c Cube) int {
	r, _ := roles(c).Least()
	return r
}

// full reports whether every set satisfies a cube.
func full(c Cube) bool {
	return Equal(c, Cube{})
}
