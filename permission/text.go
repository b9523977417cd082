package permission

import (
	"strings"

	"arbac/api"
)

// blank stands between the action and the path of a text, below behind the path of a deep permission.
const (
	blank = " "
	root  = "/"
	below = "/*"
)

// Text returns the text of a permission.
func (p Permission) Text() string {
	switch {
	case !valid(p):
		return ""
	case !p.Deep:
		return p.Action + blank + p.Path
	}
	return p.Action + blank + strings.TrimSuffix(p.Path, root) + below
}

// Parse returns the permission with this text.
func Parse(s string) (Permission, api.Errno) {
	var p Permission
	p.Action, p.Path, _ = strings.Cut(s, blank)
	p.Path, p.Deep = strings.CutSuffix(p.Path, below)
	if p.Deep && p.Path == "" {
		p.Path = root
	}
	// What is left over and above a permission, such as a second stroke, is not in its text.
	if !valid(p) || p.Text() != s {
		return Permission{}, api.ErrForm
	}
	return p, api.OK
}
