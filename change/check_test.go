package change_test

import (
	"math"
	"strings"
	"testing"

	"arbac/api"
	"arbac/change"
)

// set returns a change in which a field has a number, or is a text of so many bytes.
func set(c C, field string, n int) C {
	switch text := strings.Repeat("x", max(0, min(n, 10000))); field {
	case "By":
		c.By = n
	case "User":
		c.User = n
	case "Role":
		c.Role = n
	case "Other":
		c.Other = n
	case "Session":
		c.Session = n
	case "Day":
		c.Day = n
	case "Name":
		c.Name = text
	case "Text":
		c.Text = text
	case "Action":
		c.Permission.Action = text
	case "Path":
		c.Permission.Path = text
	case "Deep":
		c.Permission.Deep = n != 0
	}
	return c
}

// numbers and texts are the fields with numbers and with texts, and the greatest length of each text.
var (
	numbers = []string{"By", "User", "Role", "Other", "Session", "Day"}
	texts   = map[string]int{"Name": 12, "Text": 8000, "Action": 12, "Path": 104}
)

// uses reports whether a kind uses a field, or the permission that it is a part of.
func uses(k change.Kind, field string) bool {
	if field == "Action" || field == "Path" || field == "Deep" {
		field = "Permission"
	}
	for f := range strings.FieldsSeq(kinds[k].fields) {
		if f == field {
			return true
		}
	}
	return false
}

// checks checks the error of the form of a change.
func checks(t *testing.T, c C, want api.Errno) {
	t.Helper()
	if e := change.Check(c); e != want {
		t.Errorf("Check(%.200v): error %d, not %d", c, e, want)
	}
}

// P25.1: the kinds have the numbers of the chapter.
func TestKinds(t *testing.T) {
	for i, k := range []change.Kind{
		change.AddUser, change.AddRole, change.AddAdmin, change.Link, change.Unlink, change.Grant, change.Withdraw, change.Appoint, change.Dismiss,
		change.SetRules, change.SetConstraints, change.Assign, change.Revoke, change.Open, change.Close, change.Activate, change.Deactivate, change.Day,
	} {
		if int(k) != i+1 {
			t.Errorf("kind %d is number %d", k, i+1)
		}
	}
}

// P25.1: what is no kind, whatever else is wrong.
func TestCheckKind(t *testing.T) {
	for k := range 256 {
		c := C{Kind: change.Kind(k)}
		if _, known := kinds[c.Kind]; known {
			checks(t, c, api.OK)
			continue
		}
		checks(t, c, api.ErrArg)
		checks(t, set(c, "Day", -1), api.ErrArg)
		checks(t, set(c, "Text", 8001), api.ErrArg)
	}
}

// P25.1: fields that a kind does not use.
func TestCheckForm(t *testing.T) {
	for k := range kinds {
		c := C{Kind: k}
		for _, field := range append([]string{"Name", "Text", "Action", "Path", "Deep"}, numbers...) {
			want := api.ErrForm
			if uses(k, field) {
				want = api.OK
			}
			checks(t, set(c, field, 1), want)
			if want == api.OK {
				continue
			}
			checks(t, set(c, field, math.MaxInt), want)
			if c := set(c, field, math.MinInt); c != (C{Kind: k}) {
				checks(t, c, want)
			}
			// Before all errors of the fields that the kind uses.
			for _, other := range numbers {
				if uses(k, other) {
					checks(t, set(set(c, field, 1), other, -1), want)
				}
			}
			for other, most := range texts {
				if uses(k, other) {
					checks(t, set(set(c, field, 1), other, most+1), want)
				}
			}
		}
	}
}

// P25.1: numbers that are out of range, and texts that are too long.
func TestCheckRangeAndLimit(t *testing.T) {
	for k := range kinds {
		c := C{Kind: k}
		for field, most := range texts {
			if !uses(k, field) {
				continue
			}
			checks(t, set(c, field, most), api.OK)
			checks(t, set(c, field, most+1), api.ErrLimit)
			checks(t, set(c, field, 10000), api.ErrLimit)
		}
		for _, field := range numbers {
			if !uses(k, field) {
				continue
			}
			for _, n := range []int{0, 1, 63, 30001, 999999, 1000000} {
				checks(t, set(c, field, n), api.OK)
			}
			for _, n := range []int{-1, 1000001, math.MinInt, math.MaxInt} {
				checks(t, set(c, field, n), api.ErrRange)
				for other, most := range texts {
					if uses(k, other) {
						checks(t, set(set(c, field, n), other, most+1), api.ErrRange)
					}
				}
			}
		}
	}
}

// P25.1: what no name, path or text is, is found by Apply.
func TestCheckTakesAnyText(t *testing.T) {
	for _, c := range []C{addUser(""), addRole("by"), addAdmin("\xff\x00 A"), grants(0, P{}), withdraw(99, may("?", "a//", true)), setRules("grant"), setConstraints("\xff"), link(0, 0)} {
		checks(t, c, api.OK)
	}
}

// P25.1
func TestAdministrative(t *testing.T) {
	for k := range 256 {
		for _, c := range []C{{}, {Day: -1, Text: strings.Repeat("x", 8001)}} {
			c.Kind = change.Kind(k)
			if change.Administrative(c) != (k == 12 || k == 13) {
				t.Errorf("Administrative of kind %d is %v", k, !(k == 12 || k == 13))
			}
		}
	}
}
