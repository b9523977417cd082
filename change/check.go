package change

import (
	"slices"

	"arbac/api"
	"arbac/permission"
)

// maxNumber is the greatest number in a change.
const maxNumber = 1000000

// maxPath is the length of the longest path: a stroke and a name for each step down.
const maxPath = api.MaxDepth * (1 + api.MaxName)

// uses is a set of fields of a change: a bit for each one, in the order of the type.
type uses uint16

const (
	usesBy uses = 1 << iota
	usesUser
	usesRole
	usesOther
	usesSession
	usesDay
	usesName
	usesText
	usesPermission
)

// used has the fields of each kind.
var used = [...]uses{
	AddUser:        usesName,
	AddRole:        usesName,
	AddAdmin:       usesName,
	Link:           usesRole | usesOther,
	Unlink:         usesRole | usesOther,
	Grant:          usesRole | usesPermission,
	Withdraw:       usesRole | usesPermission,
	Appoint:        usesUser | usesRole | usesDay,
	Dismiss:        usesUser | usesRole,
	SetRules:       usesText,
	SetConstraints: usesText,
	Assign:         usesBy | usesUser | usesRole | usesDay,
	Revoke:         usesBy | usesUser | usesRole,
	Open:           usesUser,
	Close:          usesSession,
	Activate:       usesRole | usesSession,
	Deactivate:     usesRole | usesSession,
	Day:            usesDay,
}

// Check returns the error of the form of a change.
func Check(c Change) api.Errno {
	switch {
	case c.Kind < AddUser || c.Kind > Day:
		return api.ErrArg
	case c.filled()&^used[c.Kind] != 0:
		return api.ErrForm
	case slices.ContainsFunc(c.numbers(), func(f number) bool { return *f.at < 0 || *f.at > maxNumber }):
		return api.ErrRange
	case c.tooLong():
		return api.ErrLimit
	}
	return api.OK
}

// number and text are fields with a number, or a text: which one, and where it is.
type (
	number struct {
		use uses
		at  *int
	}
	text struct {
		use uses
		at  *string
	}
)

// numbers returns the fields with numbers, in the order of the type.
func (c *Change) numbers() []number {
	return []number{
		{usesBy, &c.By}, {usesUser, &c.User}, {usesRole, &c.Role},
		{usesOther, &c.Other}, {usesSession, &c.Session}, {usesDay, &c.Day},
	}
}

// texts returns the fields with texts, in the order of the type.
func (c *Change) texts() []text {
	return []text{{usesName, &c.Name}, {usesText, &c.Text}}
}

// has reports whether the kind of a change has a field; 0, which is no kind, has none.
func (c *Change) has(u uses) bool { return used[c.Kind]&u != 0 }

// filled returns the fields that are not zero.
func (c *Change) filled() uses {
	var u uses
	for _, f := range c.numbers() {
		if *f.at != 0 {
			u |= f.use
		}
	}
	for _, f := range c.texts() {
		if *f.at != "" {
			u |= f.use
		}
	}
	if c.Permission != (permission.Permission{}) {
		u |= usesPermission
	}
	return u
}

// tooLong reports whether a text has more bytes than it may have.
func (c *Change) tooLong() bool {
	return len(c.Name) > api.MaxName || len(c.Permission.Action) > api.MaxName ||
		len(c.Permission.Path) > maxPath || len(c.Text) > api.MaxSource
}
