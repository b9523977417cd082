package state

import (
	"slices"

	"arbac/api"
	"arbac/bits"
	"arbac/formula"
	"arbac/rule"
)

// refuses returns the first error of parts.
func refuses(p Parts) api.Errno {
	// In this order, as each check relies on those before it.
	for _, check := range [...]func(Parts) api.Errno{
		Parts.checkPointers,
		Parts.checkDay,
		Parts.checkLimits,
		Parts.checkAdmin,
		Parts.checkRegistered,
		Parts.checkKinds,
		Parts.checkRules,
		Parts.checkConstraints,
	} {
		if e := check(p); e != api.OK {
			return e
		}
	}
	return api.OK
}

func (p Parts) checkPointers() api.Errno {
	if p.Users == nil || p.Roles == nil || p.Links == nil || p.Members == nil || p.Grants == nil || p.Sessions == nil {
		return api.ErrArg
	}
	return api.OK
}

func (p Parts) checkDay() api.Errno {
	if p.Day < 0 || p.Day > api.MaxDay {
		return api.ErrRange
	}
	return api.OK
}

func (p Parts) checkLimits() api.Errno {
	if p.Roles.Len() > api.MaxRoles || len(p.Rules) > api.MaxRules || len(p.Constraints) > api.MaxConstraints {
		return api.ErrLimit
	}
	return api.OK
}

func (p Parts) checkAdmin() api.Errno {
	if !p.Admin.Within(p.registered()) {
		return api.ErrNone
	}
	return api.OK
}

// checkRegistered returns the error of roles and users that are not registered, wherever they occur.
func (p Parts) checkRegistered() api.Errno {
	var users, roles bits.Set
	for _, link := range p.Links.Links() {
		roles = roles.With(link[0]).With(link[1])
	}
	for _, x := range p.Members.Entries() {
		users, roles = users.With(x.User), roles.With(x.Role)
	}
	for _, x := range p.Grants.Entries() {
		roles = roles.With(x.Role)
	}
	for _, x := range p.Sessions.List() {
		users, roles = users.With(x.User), roles.Or(x.Active)
	}
	if !users.Within(upTo(p.Users.Len())) || !roles.Within(p.registered()) {
		return api.ErrNone
	}
	return api.OK
}

// checkKinds returns the error of roles of the wrong kind.
func (p Parts) checkKinds() api.Errno {
	for _, link := range p.Links.Links() {
		if p.Admin.Has(link[0]) != p.Admin.Has(link[1]) {
			return api.ErrType
		}
	}
	// What is granted and active must be regular.
	var used bits.Set
	for _, x := range p.Grants.Entries() {
		used = used.With(x.Role)
	}
	for _, x := range p.Sessions.List() {
		used = used.Or(x.Active)
	}
	if used.Meets(p.Admin) {
		return api.ErrType
	}
	return api.OK
}

func (p Parts) checkRules() api.Errno {
	for _, r := range p.Rules {
		if e := rule.Check(r, p.Roles.Len(), p.Admin); e != api.OK {
			return e
		}
	}
	return api.OK
}

func (p Parts) checkConstraints() api.Errno {
	for i, c := range p.Constraints {
		if e := formula.CheckConstraint(c); e != api.OK {
			return e
		}
		if slices.ContainsFunc(p.Constraints[:i], func(o formula.Constraint) bool { return o.Name == c.Name }) {
			return api.ErrForm
		}
		if !formula.Mentioned(c.Formula).Within(p.regular()) {
			return api.ErrNone
		}
	}
	return api.OK
}

// registered returns all roles.
func (p Parts) registered() bits.Set { return upTo(p.Roles.Len()) }

// regular returns the regular roles.
func (p Parts) regular() bits.Set { return p.registered().Minus(p.Admin) }

// upTo returns the numbers from 1 to n.
func upTo(n int) bits.Set { return bits.Below(n + 1).Without(0) }
