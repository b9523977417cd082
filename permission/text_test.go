package permission_test

import (
	"strings"
	"testing"

	"arbac/api"
	"arbac/permission"
)

// text returns the text of a permission, as the definition says.
func text(p P) string {
	switch {
	case !isPermission(p):
		return ""
	case !p.Deep:
		return p.Action + " " + p.Path
	case p.Path == "/":
		return p.Action + " /*"
	}
	return p.Action + " " + p.Path + "/*"
}

// P11.7
func TestText(t *testing.T) {
	seen := map[string]P{}
	for _, p := range permissions(actions...) {
		want := text(p)
		if p.Text() != want {
			t.Errorf("Text of %v: %q, not %q", p, p.Text(), want)
		}
		if want == "" {
			continue
		}
		if q, ok := seen[want]; ok && q != p {
			t.Errorf("%v and %v have the same text", p, q)
		}
		seen[want] = p
		if q, e := permission.Parse(want); q != p || e != api.OK {
			t.Errorf("Parse(%q): %v, %v", want, q, e)
		}
	}
	if len(seen) < 100 {
		t.Errorf("only %d texts are tested", len(seen))
	}
}

// P11.7: the examples of the chapter, and the limits.
func TestTextExamples(t *testing.T) {
	for _, c := range []struct {
		p    P
		want string
	}{
		{P{"read", "/a", true}, "read /a/*"}, {P{"run", "/", true}, "run /*"}, {P{"run", "/", false}, "run /"},
		{P{"read", "/a/b", false}, "read /a/b"}, {P{"read", seven, true}, "read " + seven + "/*"}, {P{"read", eight, false}, "read " + eight},
		{P{"read", eight, true}, ""}, {P{"by", "/", true}, ""}, {P{"read", "", true}, ""}, {P{"read", "/*", false}, ""}, {P{"read", "/a/*", false}, ""}, {P{}, ""},
	} {
		if s := c.p.Text(); s != c.want {
			t.Errorf("Text of %v: %q, not %q", c.p, s, c.want)
		}
		if p, e := permission.Parse(c.want); c.want != "" && (p != c.p || e != api.OK) {
			t.Errorf("Parse(%q): %v, %v", c.want, p, e)
		}
	}
}

// P11.7: an empty text is the one of no permission in particular.
func TestParseErrors(t *testing.T) {
	for _, s := range []string{
		"", " ", "read", "read ", " /a", "/a", "read/a", "read  /a", " read /a", "read /a ", "read\t/a", "read /a\n", "read\n/a",
		"read a", "read *", "read **", "read /**", "read //*", "read /a//*", "read /a*", "read /a/", "read /a/**", "read /a/*/", "read /*/a", "read /*/*", "read /a/*/*", "read /a/* ", "read / *", "read /a /*",
		"read /A", "read /..", "read /a/../*", "read /abcdefghijklm", "read " + eight + "/*", "read " + eight + "/a", "read /a/b c",
		"by /a", "all /*", "users /", "Read /a", "2 /a", "abcdefghijklm /a", "a-b /a", "read write /a", "réad /a", "\xff /a", "read /\xff",
		strings.Repeat("a", 100000), strings.Repeat(" ", 100000), "read " + strings.Repeat("/a", 100000), "read " + strings.Repeat("/*", 100000), "read /" + strings.Repeat("*", 100000),
	} {
		if p, e := permission.Parse(s); p != (P{}) || e != api.ErrForm {
			t.Errorf("Parse(%.40q): %v, %v", s, p, e)
		}
	}
}

// P11.7: among all short texts exactly those are accepted that are the text of a permission.
func TestParseShort(t *testing.T) {
	accepted := 0
	var walk func(s string)
	walk = func(s string) {
		p, e := permission.Parse(s)
		switch {
		case e == api.OK:
			accepted++
			if text(p) != s {
				t.Errorf("Parse(%q): %v", s, p)
			}
		case e != api.ErrForm || p != P{}:
			t.Errorf("Parse(%q): %v, %v", s, p, e)
		}
		if len(s) < 7 {
			for _, c := range "a. /*" {
				walk(s + string(c))
			}
		}
	}
	walk("")
	want := 0
	var count func(s string)
	count = func(s string) {
		for _, deep := range []bool{false, true} {
			for _, a := range []string{"a", "aa", "aaa", "aaaa", "aaaaa"} {
				if p := (P{a, s, deep}); isPermission(p) && len(text(p)) <= 7 {
					want++
				}
			}
		}
		if len(s) < 5 {
			for _, c := range "a./" {
				count(s + string(c))
			}
		}
	}
	count("")
	if accepted != want {
		t.Errorf("%d texts are accepted, not %d", accepted, want)
	}
}
