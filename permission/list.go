package permission

import (
	"slices"

	"arbac/path"
)

// set has the valid permissions of a list. Each of them is mapped to true.
//
// What implies a permission has one of few paths, those above its own, so a set finds
// it without going through the list.
type set map[Permission]bool

// setOf returns the set of a list.
func setOf(l []Permission) set {
	s := make(set, len(l))
	for _, p := range l {
		if valid(p) {
			s[p] = true
		}
	}
	return s
}

// Normal returns the permissions that no other one of the list implies, ascending.
func Normal(l []Permission) []Permission {
	s := setOf(l)
	var out []Permission
	for p := range s {
		if !s.exceeds(p) {
			out = append(out, p)
		}
	}
	slices.SortFunc(out, Compare)
	return out
}

// Same reports whether two lists cover the same requests.
func Same(a, b []Permission) bool {
	return slices.Equal(Normal(a), Normal(b))
}

// Minus returns what the first list has and no permission of the second one implies.
func Minus(a, b []Permission) []Permission {
	return slices.DeleteFunc(Normal(a), setOf(b).implies)
}

// Common returns permissions that cover exactly what both lists cover.
func Common(a, b []Permission) []Permission {
	// Of two permissions that cover a common request, one implies the other.
	return Normal(append(implied(a, b), implied(b, a)...))
}

// implied returns the permissions of a list that some permission of another one implies.
func implied(l, by []Permission) []Permission {
	s := setOf(by)
	var out []Permission
	for _, p := range l {
		if s.implies(p) {
			out = append(out, p)
		}
	}
	return out
}

// implies reports whether some permission of the set implies p.
func (s set) implies(p Permission) bool {
	return valid(p) && (s[p] || s.exceeds(p))
}

// exceeds reports whether some permission of the set, other than p, implies p, which is valid.
func (s set) exceeds(p Permission) bool {
	if !p.Deep && s[Permission{p.Action, p.Path, true}] {
		return true
	}
	for _, up := range path.Ancestors(p.Path) {
		if s[Permission{p.Action, up, true}] {
			return true
		}
	}
	return false
}
