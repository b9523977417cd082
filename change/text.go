package change

import (
	"strconv"
	"strings"

	"arbac/api"
)

// Text returns a line about a change.
func Text(c Change) string {
	if Check(c) != api.OK {
		return ""
	}
	return strings.Join(words(c), " ")
}

// words returns the words of the line about a change that Check accepts.
func words(c Change) []string {
	user, role, session, day := strconv.Itoa(c.User), strconv.Itoa(c.Role), strconv.Itoa(c.Session), strconv.Itoa(c.Day)
	by, other, length := strconv.Itoa(c.By), strconv.Itoa(c.Other), strconv.Itoa(len(c.Text))
	switch c.Kind {
	case AddUser:
		return []string{"add user", c.Name}
	case AddRole:
		return []string{"add role", c.Name}
	case AddAdmin:
		return []string{"add admin", c.Name}
	case Link:
		return []string{"link", role, "over", other}
	case Unlink:
		return []string{"unlink", role, "from", other}
	case Grant:
		return []string{"grant", role, c.Permission.Text()}
	case Withdraw:
		return []string{"withdraw", role, c.Permission.Text()}
	case Appoint:
		return []string{"appoint", user, "to", role, "until", day}
	case Dismiss:
		return []string{"dismiss", user, "from", role}
	case SetRules:
		return []string{"set rules,", length, "bytes"}
	case SetConstraints:
		return []string{"set constraints,", length, "bytes"}
	case Assign:
		return []string{"assign", role, "to", user, "by", by, "until", day}
	case Revoke:
		return []string{"revoke", role, "from", user, "by", by}
	case Open:
		return []string{"open for", user}
	case Close:
		return []string{"close", session}
	case Activate:
		return []string{"activate", role, "in", session}
	case Deactivate:
		return []string{"deactivate", role, "in", session}
	}
	return []string{"day", day}
}
