package days_test

import (
	"strings"
	"testing"

	"arbac/api"
	"arbac/days"
)

// P5.5
func TestText(t *testing.T) {
	for _, c := range []struct {
		l    []days.Span
		want string
	}{
		{nil, "none"},
		{[]days.Span{{0, 30000}}, "all"},
		{[]days.Span{{0, 17}, {18, 30000}}, "all"},
		{[]days.Span{{10, 10}, {3, 7}, {8, 8}, {20, 30000}}, "3-8,10,20-"},
		{[]days.Span{{0, 2}, {9, 9}, {11, 19}}, "0-2,9,11-19"},
		{[]days.Span{{30000, 30000}}, "30000"},
		{[]days.Span{{29999, 30000}}, "29999-"},
		{[]days.Span{{1, 30000}}, "1-"},
		{[]days.Span{{0, 0}}, "0"},
		{[]days.Span{{0, 1}}, "0-1"},
		{[]days.Span{{0, 29999}}, "0-29999"},
		{[]days.Span{{0, 0}, {2, 30000}}, "0,2-"},
		{[]days.Span{{7, 9}, {30000, 30000}}, "7-9,30000"},
	} {
		s := of(t, c.l...)
		if s.Text() != c.want {
			t.Errorf("%v: %q, not %q", c.l, s.Text(), c.want)
		}
		if r, e := days.Parse(c.want); e != api.OK || !r.Equal(s) {
			t.Errorf("Parse(%q): %s, %v", c.want, r.Text(), e)
		}
	}
	example := of(t, days.Span{From: 3, To: 8}, days.Span{From: 10, To: 10}, days.Span{From: 20, To: 30000})
	if s := example.Not().Text(); s != "0-2,9,11-19" {
		t.Errorf("Not: %s", s)
	}
	for _, l := range lists() {
		s := of(t, l...)
		if r, e := days.Parse(s.Text()); e != api.OK || !r.Equal(s) || r.Text() != s.Text() {
			t.Errorf("Parse of the text of %v: %v", l, e)
		}
	}
}

// P5.5
func TestParseErrors(t *testing.T) {
	for _, s := range []string{
		"", ",", "-", "3,", ",3", "3,,5", " 3", "3 ", "3, 5", "3 -5", "3- 5", "a", "3-a", "None", "ALL", "All", "none,3", "3,all", "all,none", "nonee",
		"03", "00", "+3", "-3", "3-+5", "3--5", "3-05", "3-5-7", "--", "3-5-", "0x3", "1_0", "3.0", "3e0",
		"5-5", "5-3", "30000-", "30000-30000", "5-30000", "0-", "0-30000", "30001", "3-30001", "30001-", "99999999999999999999", "3-99999999999999999999",
		"3,4", "3-5,6", "3-5,6-8", "3,4-", "5,3", "3-8,5", "3,3", "3-8,3-8", "5-,7", "1-,7-", "3;5", "3\n", "\x003", "３",
		strings.Repeat("1,", 40000) + "1", strings.Repeat(",", 40000), strings.Repeat("0", 40000),
	} {
		if r, e := days.Parse(s); e != api.ErrForm || !r.Empty() {
			t.Errorf("Parse(%.30q): %s, %v", s, r.Text(), e)
		}
	}
}

// P5.5: among all short texts exactly those are accepted that are the text of a set.
func TestParseShort(t *testing.T) {
	const letters = "019-,"
	var walk func(s string)
	walk = func(s string) {
		if r, e := days.Parse(s); e == api.OK && r.Text() != s || e != api.OK && (e != api.ErrForm || !r.Empty()) {
			t.Errorf("Parse(%q): %q, %v", s, r.Text(), e)
		}
		if len(s) < 6 {
			for _, c := range letters {
				walk(s + string(c))
			}
		}
	}
	walk("")
}
