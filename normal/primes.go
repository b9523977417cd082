package normal

import (
	"slices"

	"arbac/bits"
	"arbac/cube"
)

// A cube over some roles is written as a number in base 3, with a digit for each role, the least role at the last place:
// whether the role must be absent, must be present, or is open. Making a role open makes the number greater.
const (
	absent = iota
	present
	open
	base
)

// primes returns the prime implicants of the sets that pass a test, ascending. The test must depend on these roles alone.
func primes(over bits.Set, test func(bits.Set) bool) []cube.Cube {
	roles := over.List()
	table := implicants(roles, test)
	var l []cube.Cube
	for n := range table {
		if prime(table, n) {
			l = append(l, decoded(n, roles))
		}
	}
	slices.SortFunc(l, cube.Compare)
	return l
}

// implicants returns for each cube over some roles whether all sets that satisfy it pass a test.
func implicants(roles []int, test func(bits.Set) bool) []bool {
	size := 1
	for range roles {
		size *= base
	}
	table := make([]bool, size)
	for n := range table {
		if place := openPlace(n); place > 0 {
			// Both halves have a smaller number.
			table[n] = table[n-(open-absent)*place] && table[n-(open-present)*place]
		} else {
			table[n] = test(decoded(n, roles).Yes)
		}
	}
	return table
}

// openPlace returns the value of a place at which a role is open; 0 if there is none.
func openPlace(n int) int {
	for place := 1; place <= n; place *= base {
		if n/place%base == open {
			return place
		}
	}
	return 0
}

// prime reports whether a cube is an implicant, and no longer one if a further role is open.
func prime(table []bool, n int) bool {
	for place := 1; place < len(table); place *= base {
		digit := n / place % base
		if digit != open && table[n+(open-digit)*place] {
			return false
		}
	}
	return table[n]
}

// decoded returns the cube with a number.
func decoded(n int, roles []int) cube.Cube {
	var c cube.Cube
	for _, r := range roles {
		switch n % base {
		case absent:
			c.No = c.No.With(r)
		case present:
			c.Yes = c.Yes.With(r)
		}
		n /= base
	}
	return c
}
