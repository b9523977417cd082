package names_test

import (
	"regexp"
	"slices"
	"strings"
	"testing"

	"arbac/names"
)

// keywords are those of the chapter.
const keywords = "all, and, assign, by, count, declare, dynamic, enforce, false, for, if, members, none, not, on, or, revoke, static, true, users"

// shape is what names and keywords look like.
var shape = regexp.MustCompile(`\A[a-z][a-z0-9_]{0,11}\z`)

// P8.1
func TestValid(t *testing.T) {
	words := strings.Split(keywords, ", ")
	var l []string
	for _, w := range words {
		l = append(l, w, w+"s", w+"_", w[:len(w)-1], w[1:], "x"+w, strings.ToUpper(w), w+" ")
	}
	for c := range 256 {
		s := string([]byte{byte(c)})
		l = append(l, s, "x"+s, s+"x", "x"+s+"x", s+s)
	}
	for n := range 40 {
		l = append(l, strings.Repeat("a", n), strings.Repeat("_", n), strings.Repeat("9", n), "a"+strings.Repeat("9", n))
	}
	l = append(l, strings.Repeat("a", 100000), "ä", "aä", "ａ", "abcdefghijkl", "abcdefghijklm", "abcdefghijk_", "abcdefghijk-")
	for _, s := range l {
		want := shape.MatchString(s) && !slices.Contains(words, s)
		if names.Valid(s) != want {
			t.Errorf("Valid(%.40q) is %v", s, !want)
		}
	}
}

// P8.1: the first example of the chapter.
func TestValidExample(t *testing.T) {
	for _, s := range []string{"a", "teller", "clerk_2"} {
		if !names.Valid(s) {
			t.Errorf("%q is no name", s)
		}
	}
	for _, s := range []string{"", "A", "2nd", "_x", "a-b", "by", "abcdefghijklm"} {
		if names.Valid(s) {
			t.Errorf("%q is a name", s)
		}
	}
}

// P8.1
func TestKeywords(t *testing.T) {
	l := names.Keywords()
	if strings.Join(l, ", ") != keywords || !slices.IsSorted(l) {
		t.Errorf("Keywords: %q", l)
	}
	clear(l)
	if strings.Join(names.Keywords(), ", ") != keywords || names.Valid("all") {
		t.Error("a caller has changed the keywords")
	}
}
