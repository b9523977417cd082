package rule

import (
	"strconv"
	"strings"

	"arbac/cube"
	"arbac/days"
	"arbac/names"
)

// The words and symbols of the grammar.
const (
	assignWord = "assign"
	revokeWord = "revoke"
	byWord     = "by"
	ifWord     = "if"
	andWord    = "and"
	notWord    = "not"
	onWord     = "on"
	allWord    = "all"
	noneWord   = "none"
	forWord    = "for"
	spanSymbol = ","
	toSymbol   = "-"
	endSymbol  = ";"
)

// Print returns the canonical source of rules.
func Print(l []Rule, roles *names.Table) string {
	var text strings.Builder
	for _, r := range l {
		if !printable(r, roles) {
			return ""
		}
		text.WriteString(strings.Join(words(r, roles), " "))
		text.WriteString(endSymbol + "\n")
	}
	return text.String()
}

// printable reports whether a rule has a text.
func printable(r Rule, roles *names.Table) bool {
	if !r.Revoke && cube.Empty(r.If) {
		return false
	}
	// A list, as numbers that no set has may be among them.
	named := []int{r.Admin, r.Target}
	if !r.Revoke {
		named = append(named, conditional(r).List()...)
	}
	for _, n := range named {
		if _, ok := roles.Name(n); !ok {
			return false
		}
	}
	return true
}

// words returns the words of a printable rule.
func words(r Rule, roles *names.Table) []string {
	target, _ := roles.Name(r.Target)
	admin, _ := roles.Name(r.Admin)
	l := []string{assignWord, target, byWord, admin}
	if r.Revoke {
		l[0] = revokeWord
	} else {
		l = append(l, condition(r.If, roles)...)
	}
	if !r.When.Equal(days.All()) {
		l = append(l, onWord, r.When.Text())
	}
	if !r.Revoke && r.Longest != 0 {
		l = append(l, forWord, strconv.Itoa(r.Longest))
	}
	return l
}

// condition returns the words of a condition; none if it has no literals.
func condition(c cube.Cube, roles *names.Table) []string {
	var l []string
	before := ifWord
	for n := range c.Yes.Or(c.No).All() {
		l = append(l, before)
		if c.No.Has(n) {
			l = append(l, notWord)
		}
		name, _ := roles.Name(n)
		l = append(l, name)
		before = andWord
	}
	return l
}
