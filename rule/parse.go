package rule

import (
	"arbac/api"
	"arbac/bits"
	"arbac/cube"
	"arbac/days"
	"arbac/names"
	"arbac/token"
)

// Parse returns the rules of a source, or the offset of the first error.
func Parse(s string, roles *names.Table, admin bits.Set) ([]Rule, int, api.Errno) {
	if roles == nil {
		return nil, 0, api.ErrArg
	}
	tokens, at, e := token.Scan(s)
	if e != api.OK {
		return nil, at, e
	}
	p := parser{token.NewReader(tokens), roles, admin}
	l := p.source()
	if at, e := p.Err(); e != api.OK {
		return nil, at, e
	}
	return l, 0, api.OK
}

// parser has a method for each rule of the grammar, which reads what the rule describes.
// The reader keeps the first error. Behind it there is no further token, so that all of them end.
type parser struct {
	*token.Reader
	roles *names.Table
	admin bits.Set
}

func (p parser) source() []Rule {
	var l []Rule
	for p.Peek().Kind != token.End {
		// What begins no rule is wrong in itself, however many rules there are.
		if len(l) == api.MaxRules && (p.Is(assignWord) || p.Is(revokeWord)) {
			p.Fail(api.ErrLimit)
		}
		l = append(l, p.rule())
	}
	return l
}

func (p parser) rule() Rule {
	r := Rule{Revoke: p.Accept(revokeWord)}
	if !r.Revoke {
		p.Expect(assignWord)
	}
	r.Target = p.role(false)
	p.Expect(byWord)
	r.Admin = p.role(true)
	if !r.Revoke && p.Accept(ifWord) {
		r.If = p.condition()
	}
	r.When = days.All()
	if p.Accept(onWord) {
		r.When = p.when()
	}
	if !r.Revoke && p.Accept(forWord) {
		r.Longest = p.Number(1, api.MaxDay)
	}
	p.Expect(endSymbol)
	return r
}

// role reads the name of a role, which must be administrative, or must not.
func (p parser) role(administrative bool) int {
	// The errors are found before the reader goes on, as they have the offset of the name.
	word := p.Peek().Text
	n, known := p.roles.Number(word)
	switch {
	case known && p.admin.Has(n) != administrative:
		p.Fail(api.ErrType)
	case !known && names.Valid(word):
		p.Fail(api.ErrName)
	}
	p.Name()
	return n
}

func (p parser) condition() cube.Cube {
	c := p.literal(cube.Cube{})
	for p.Accept(andWord) {
		c = p.literal(c)
	}
	return c
}

// literal reads a literal, and returns the cube with it.
func (p parser) literal(c cube.Cube) cube.Cube {
	absent := p.Accept(notWord)
	if n, known := p.roles.Number(p.Peek().Text); known && c.Yes.Or(c.No).Has(n) {
		p.Fail(api.ErrExists)
	}
	n := p.role(false)
	if absent {
		c.No = c.No.With(n)
	} else {
		c.Yes = c.Yes.With(n)
	}
	return c
}

func (p parser) when() days.Set {
	if p.Accept(allWord) {
		return days.All()
	}
	if p.Accept(noneWord) {
		return days.Set{}
	}
	l := []days.Span{p.span()}
	for p.Accept(spanSymbol) {
		l = append(l, p.span())
	}
	// The reader has refused what is no span already.
	s, _ := days.Of(l...)
	return s
}

func (p parser) span() days.Span {
	from := p.Number(0, api.MaxDay)
	if !p.Accept(toSymbol) {
		return days.Span{From: from, To: from}
	}
	if p.Peek().Kind != token.Number {
		return days.Span{From: from, To: api.MaxDay}
	}
	return days.Span{From: from, To: p.Number(from, api.MaxDay)}
}
