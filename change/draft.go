package change

import (
	"arbac/api"
	"arbac/formula"
	"arbac/parser"
	"arbac/rule"
	"arbac/state"
)

// draft is the parts of a state that is to be changed, and the state itself.
//
// It has a method for each kind, which makes a change in the parts, or returns its error; what
// the parts are then does not matter. A conflict is found when the state after the change is there.
type draft struct {
	state.Parts
	before *state.State
}

// change makes a change that Check accepts.
func (d *draft) change(c Change) api.Errno {
	kinds := [...]func(d *draft, c Change) api.Errno{
		AddUser:        (*draft).addUser,
		AddRole:        (*draft).addRole,
		AddAdmin:       (*draft).addAdmin,
		Link:           (*draft).link,
		Unlink:         (*draft).unlink,
		Grant:          (*draft).grant,
		Withdraw:       (*draft).withdraw,
		Appoint:        (*draft).appoint,
		Dismiss:        (*draft).dismiss,
		SetRules:       (*draft).setRules,
		SetConstraints: (*draft).setConstraints,
		Assign:         (*draft).assign,
		Revoke:         (*draft).revoke,
		Open:           (*draft).open,
		Close:          (*draft).close,
		Activate:       (*draft).activate,
		Deactivate:     (*draft).deactivate,
		Day:            (*draft).setDay,
	}
	return kinds[c.Kind](d, c)
}

func (d *draft) addUser(c Change) (e api.Errno) {
	d.Users, _, e = d.Users.Add(c.Name, api.MaxUsers)
	return e
}

func (d *draft) addRole(c Change) (e api.Errno) {
	d.Roles, _, e = d.Roles.Add(c.Name, api.MaxRoles)
	return e
}

func (d *draft) addAdmin(c Change) api.Errno {
	roles, n, e := d.Roles.Add(c.Name, api.MaxRoles)
	d.Roles, d.Admin = roles, d.Admin.With(n)
	return e
}

func (d *draft) link(c Change) (e api.Errno) {
	if e = d.linkable(c.Role, c.Other); e == api.OK {
		d.Links, e = d.Links.Link(c.Role, c.Other)
	}
	return e
}

func (d *draft) unlink(c Change) (e api.Errno) {
	if e = d.linkable(c.Role, c.Other); e == api.OK {
		d.Links, e = d.Links.Unlink(c.Role, c.Other)
	}
	return e
}

func (d *draft) grant(c Change) (e api.Errno) {
	if e = d.regular(c.Role); e == api.OK {
		d.Grants, e = d.Grants.Grant(c.Role, c.Permission)
	}
	return e
}

func (d *draft) withdraw(c Change) (e api.Errno) {
	if e = d.regular(c.Role); e == api.OK {
		d.Grants, e = d.Grants.Withdraw(c.Role, c.Permission)
	}
	return e
}

func (d *draft) appoint(c Change) api.Errno {
	switch {
	case !d.isUser(c.User) || !d.isRole(c.Role):
		return api.ErrNone
	case !d.isAhead(c.Day):
		return api.ErrRange
	}
	return d.put(c)
}

func (d *draft) dismiss(c Change) api.Errno {
	// Who or what is not registered has no assignment, either.
	return d.remove(c)
}

func (d *draft) setRules(c Change) (e api.Errno) {
	d.Rules, _, e = rule.Parse(c.Text, d.Roles, d.Admin)
	return e
}

func (d *draft) setConstraints(c Change) api.Errno {
	l, _, e := parser.Parse(c.Text)
	if e == api.OK {
		d.Constraints, _, e = formula.ResolveAll(l, d.Roles, d.Admin)
	}
	return e
}

func (d *draft) assign(c Change) api.Errno {
	switch {
	case !d.isUser(c.By) || !d.isUser(c.User) || !d.isRole(c.Role):
		return api.ErrNone
	case d.Admin.Has(c.Role):
		return api.ErrType
	case !d.isAhead(c.Day):
		return api.ErrRange
	case !d.permits(c):
		return api.ErrDenied
	}
	return d.put(c)
}

func (d *draft) revoke(c Change) api.Errno {
	switch {
	case !d.isUser(c.By) || !d.isUser(c.User) || !d.isRole(c.Role):
		return api.ErrNone
	case d.Admin.Has(c.Role):
		return api.ErrType
	case !d.before.Explicit(c.User).Has(c.Role):
		return api.ErrNone
	case !d.permits(c):
		return api.ErrDenied
	}
	return d.remove(c)
}

func (d *draft) open(c Change) (e api.Errno) {
	if !d.isUser(c.User) {
		return api.ErrNone
	}
	d.Sessions, _, e = d.Sessions.Open(c.User)
	return e
}

func (d *draft) close(c Change) (e api.Errno) {
	d.Sessions, e = d.Sessions.Close(c.Session)
	return e
}

func (d *draft) activate(c Change) (e api.Errno) {
	open, ok := d.Sessions.Get(c.Session)
	switch {
	case !ok || !d.isRole(c.Role):
		return api.ErrNone
	case d.Admin.Has(c.Role):
		return api.ErrType
	case !d.before.Member(open.User).Has(c.Role):
		return api.ErrDenied
	}
	d.Sessions, e = d.Sessions.Activate(c.Session, c.Role)
	return e
}

func (d *draft) deactivate(c Change) (e api.Errno) {
	// What is no role at all is not active, either.
	if open, _ := d.Sessions.Get(c.Session); !open.Active.Has(c.Role) {
		return api.ErrNone
	}
	d.Sessions, e = d.Sessions.Deactivate(c.Session, c.Role)
	return e
}

func (d *draft) setDay(c Change) api.Errno {
	if !d.isAhead(c.Day) {
		return api.ErrRange
	}
	d.Day = c.Day
	return api.OK
}

// put puts an assignment in the place of the old one, if there is one.
func (d *draft) put(c Change) (e api.Errno) {
	d.Members, e = d.Members.Assign(c.User, c.Role, c.Day)
	return e
}

// remove removes an assignment.
func (d *draft) remove(c Change) (e api.Errno) {
	d.Members, e = d.Members.Revoke(c.User, c.Role)
	return e
}

// permits reports whether a rule permits an assignment, or a revocation.
func (d *draft) permits(c Change) bool {
	_, found := rule.First(d.Rules, rule.Question{
		Revoke: c.Kind == Revoke,
		Target: c.Role,
		Admins: d.before.Member(c.By),
		Member: d.before.Member(c.User),
		Day:    d.Day,
		Until:  c.Day,
	})
	return found
}

// linkable returns the error of two roles of a link.
func (d *draft) linkable(senior, junior int) api.Errno {
	switch {
	case !d.isRole(senior) || !d.isRole(junior):
		return api.ErrNone
	case d.Admin.Has(senior) != d.Admin.Has(junior):
		return api.ErrType
	}
	return api.OK
}

// regular returns the error of a role that must be regular.
func (d *draft) regular(role int) api.Errno {
	switch {
	case !d.isRole(role):
		return api.ErrNone
	case d.Admin.Has(role):
		return api.ErrType
	}
	return api.OK
}

// isUser reports whether a number is that of a registered user.
func (d *draft) isUser(n int) bool { return n >= 1 && n <= d.Users.Len() }

// isRole reports whether a number is that of a registered role.
func (d *draft) isRole(n int) bool { return n >= 1 && n <= d.Roles.Len() }

// isAhead reports whether a day is one from that of the state on.
func (d *draft) isAhead(day int) bool { return day >= d.Day && day <= api.MaxDay }
