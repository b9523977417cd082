package change_test

import (
	"testing"

	"arbac/api"
	"arbac/change"
	"arbac/permission"
	"arbac/state"
)

// C is short for changes.
type C = change.Change

// kinds has the name of each kind, and the fields that it uses, as the table of the chapter has them.
var kinds = map[change.Kind]struct{ name, fields string }{
	1: {"AddUser", "Name"}, 2: {"AddRole", "Name"}, 3: {"AddAdmin", "Name"},
	4: {"Link", "Role Other"}, 5: {"Unlink", "Role Other"},
	6: {"Grant", "Role Permission"}, 7: {"Withdraw", "Role Permission"},
	8: {"Appoint", "User Role Day"}, 9: {"Dismiss", "User Role"},
	10: {"SetRules", "Text"}, 11: {"SetConstraints", "Text"},
	12: {"Assign", "By User Role Day"}, 13: {"Revoke", "By User Role"},
	14: {"Open", "User"}, 15: {"Close", "Session"}, 16: {"Activate", "Session Role"}, 17: {"Deactivate", "Session Role"},
	18: {"Day", "Day"},
}

func addUser(name string) C         { return C{Kind: change.AddUser, Name: name} }
func addRole(name string) C         { return C{Kind: change.AddRole, Name: name} }
func addAdmin(name string) C        { return C{Kind: change.AddAdmin, Name: name} }
func link(senior, junior int) C     { return C{Kind: change.Link, Role: senior, Other: junior} }
func unlink(senior, junior int) C   { return C{Kind: change.Unlink, Role: senior, Other: junior} }
func grants(role int, p P) C        { return C{Kind: change.Grant, Role: role, Permission: p} }
func withdraw(role int, p P) C      { return C{Kind: change.Withdraw, Role: role, Permission: p} }
func appoint(user, role, day int) C { return C{Kind: change.Appoint, User: user, Role: role, Day: day} }
func dismiss(user, role int) C      { return C{Kind: change.Dismiss, User: user, Role: role} }
func setRules(text string) C        { return C{Kind: change.SetRules, Text: text} }
func setConstraints(text string) C  { return C{Kind: change.SetConstraints, Text: text} }
func assign(by, user, role, day int) C {
	return C{Kind: change.Assign, By: by, User: user, Role: role, Day: day}
}
func revoke(by, user, role int) C    { return C{Kind: change.Revoke, By: by, User: user, Role: role} }
func open(user int) C                { return C{Kind: change.Open, User: user} }
func closes(session int) C           { return C{Kind: change.Close, Session: session} }
func activate(session, role int) C   { return C{Kind: change.Activate, Session: session, Role: role} }
func deactivate(session, role int) C { return C{Kind: change.Deactivate, Session: session, Role: role} }
func day(day int) C                  { return C{Kind: change.Day, Day: day} }

// P is short for permissions.
type P = permission.Permission

// may returns a permission, and read the one to read an object.
func may(action, path string, deep bool) P { return P{Action: action, Path: path, Deep: deep} }
func read(path string) P                   { return may("read", path, false) }

// after returns the state after changes, which must be accepted.
func after(t *testing.T, s *state.State, l ...C) *state.State {
	t.Helper()
	for _, c := range l {
		next, e := change.Apply(s, c)
		if e != api.OK || next == nil {
			t.Fatalf("%s: error %d", change.Text(c), e)
		}
		s = next
	}
	return s
}

// refused checks that a change is refused with an error, and changes nothing.
func refused(t *testing.T, s *state.State, c C, want api.Errno) {
	t.Helper()
	before := s.Digest()
	if next, e := change.Apply(s, c); next != nil || e != want {
		t.Errorf("%+v: error %d, not %d", c, e, want)
	}
	if s.Digest() != before {
		t.Errorf("%+v has changed the state", c)
	}
}
