package order

import (
	"slices"

	"arbac/bits"
)

// Sorted returns the elements in a topological order.
func (o *Order) Sorted() []int {
	if o == nil {
		return nil
	}
	return topological(o.direct)
}

// Path returns the shortest path from a down to b.
func (o *Order) Path(a, b int) ([]int, bool) {
	if !element(a, o.Len()) || !element(b, o.Len()) {
		return nil, false
	}
	// Elements are reached in the order of their paths, by length and then
	// lexicographically, as each one's successors are looked at in ascending order.
	// So the first path that reaches an element is its least one.
	from := make([]int, o.Len())
	reached, queue := bits.Of(a), []int{a}
	for i := 0; i < len(queue) && !reached.Has(b); i++ {
		next := o.direct[queue[i]].Minus(reached)
		for y := range next.All() {
			from[y] = queue[i]
			queue = append(queue, y)
		}
		reached = reached.Or(next)
	}
	if !reached.Has(b) {
		return nil, false
	}
	path := []int{b}
	for x := b; x != a; {
		x = from[x]
		path = append(path, x)
	}
	slices.Reverse(path)
	return path, true
}

// Tops returns the elements with nothing above them.
func (o *Order) Tops() []int {
	if o == nil {
		return nil
	}
	return emptyOf(o.above)
}

// Bottoms returns the elements with nothing below them.
func (o *Order) Bottoms() []int {
	if o == nil {
		return nil
	}
	return emptyOf(o.below)
}

// Height returns the number of elements of a longest chain.
func (o *Order) Height() int {
	most := 0
	// over[x] is the number of elements of a longest chain that ends above x
	over := make([]int, o.Len())
	for _, x := range o.Sorted() {
		for y := range o.direct[x].All() {
			over[y] = max(over[y], over[x]+1)
		}
		most = max(most, over[x]+1)
	}
	return most
}

// topological returns the elements in the order of Sorted, but those from which a path of
// pairs leads up to a cycle, as they have no place.
func topological(direct []bits.Set) []int {
	waiting := make([]int, len(direct)) // for so many elements directly above
	for _, s := range direct {
		for b := range s.All() {
			waiting[b]++
		}
	}
	free := bits.Set{}
	for x, n := range waiting {
		if n == 0 {
			free = free.With(x)
		}
	}
	sorted := make([]int, 0, len(direct))
	for x, ok := free.Least(); ok; x, ok = free.Least() {
		free = free.Without(x)
		sorted = append(sorted, x)
		for b := range direct[x].All() {
			waiting[b]--
			if waiting[b] == 0 {
				free = free.With(b)
			}
		}
	}
	return sorted
}

// emptyOf returns the numbers of the empty sets of a list.
func emptyOf(l []bits.Set) []int {
	var out []int
	for x, s := range l {
		if s.Empty() {
			out = append(out, x)
		}
	}
	return out
}
