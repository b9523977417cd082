package matching

import "arbac/bits"

// pairing is a matching of a valid graph, seen from both sides.
type pairing struct {
	g Graph
	// takers[v] has the left vertices whose neighbour v is.
	takers [maxVertices]bits.Set
	// partner[i] is matched with the left vertex i, owner[v] with the right vertex v.
	partner []int
	owner   [maxVertices]int
}

// maximum returns a maximum matching of a valid graph.
func maximum(g Graph) *pairing {
	p := &pairing{g: g, partner: make([]int, len(g))}
	for v := range p.owner {
		p.owner[v] = none
	}
	for i, s := range g {
		p.partner[i] = none
		for v := range s.All() {
			p.takers[v] = p.takers[v].With(i)
		}
	}
	// A vertex that cannot be placed in its turn cannot be placed later either, whatever
	// else has been placed by then: one pass is enough.
	placed := bits.Set{}
	for i := range g {
		if p.place(i, placed) {
			placed = placed.With(i)
		}
	}
	return p
}

// place matches the left vertex i, which owns no right vertex, with its least neighbour
// that is free or gets free when the vertices of movable take others. It reports whether
// there is one. The vertices of movable are matched.
func (p *pairing) place(i int, movable bits.Set) bool {
	open, next := p.open(movable)
	v, ok := p.g[i].And(open).Least()
	for ok {
		moved := p.owner[v]
		p.partner[i], p.owner[v] = v, i
		if moved == none {
			break
		}
		i, v = moved, next[v]
	}
	return ok
}

// open returns the right vertices that are free, or get free when the vertices of
// movable take others: the owner of such a vertex v takes next[v] then.
func (p *pairing) open(movable bits.Set) (bits.Set, [maxVertices]int) {
	var next [maxVertices]int
	var queue []int
	for v, i := range p.owner {
		if i == none {
			queue = append(queue, v)
		}
	}
	for k := 0; k < len(queue) && !movable.Empty(); k++ {
		willing := p.takers[queue[k]].And(movable)
		for i := range willing.All() {
			next[p.partner[i]] = queue[k]
			queue = append(queue, p.partner[i])
		}
		movable = movable.Minus(willing)
	}
	return bits.Of(queue...), next
}

// deficient returns the left vertices that some maximum matching does not match,
// and all of their neighbours, if the matching is a maximum one.
func (p *pairing) deficient() (left, right bits.Set) {
	var queue []int
	for i, v := range p.partner {
		if v == none {
			queue = append(queue, i)
		}
	}
	// A neighbour of a vertex that can be left out has an owner, or the matching would
	// not be a maximum one; and the owner can be left out instead.
	for k := 0; k < len(queue); k++ {
		reached := p.g[queue[k]].Minus(right)
		for v := range reached.All() {
			queue = append(queue, p.owner[v])
		}
		right = right.Or(reached)
	}
	return bits.Of(queue...), right
}
