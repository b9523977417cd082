package parser

import (
	"arbac/api"
	"arbac/syntax"
	"arbac/token"
)

// parser has a method for each rule of the grammar, which reads what the rule describes.
// The reader keeps the first error. Behind it there is no further token, so that all rules end.
type parser struct {
	*token.Reader
}

// kinds are the words for the kinds of constraints, in their order.
var kinds = [...]string{"static", "dynamic", "users"}

// comparisons are the symbols of the operators from syntax.Le on, in their order.
var comparisons = [...]string{"<=", "<", ">=", ">", "=="}

func (p parser) source() []syntax.Constraint {
	var l []syntax.Constraint
	for p.Peek().Kind != token.End {
		l = append(l, p.constraint())
	}
	return l
}

func (p parser) constraint() syntax.Constraint {
	var c syntax.Constraint
	c.Enforce = p.enforce()
	c.Kind = p.kind()
	c.Name = p.Name()
	p.Expect(":")
	c.Expr = p.expression()
	p.Expect(";")
	return c
}

// enforce reads whether a constraint is enforced or declared.
func (p parser) enforce() bool {
	if p.Accept("enforce") {
		return true
	}
	p.Expect("declare")
	return false
}

func (p parser) kind() syntax.Kind {
	for i, word := range kinds {
		if p.Accept(word) {
			return syntax.Static + syntax.Kind(i)
		}
	}
	p.Fail(api.ErrSyntax)
	return 0
}

func (p parser) expression() syntax.Expr {
	e := p.disjunction()
	if p.Accept("->") {
		return binary(syntax.Implies, e, p.expression())
	}
	return e
}

func (p parser) disjunction() syntax.Expr {
	return p.chain("or", syntax.Or, p.conjunction)
}

func (p parser) conjunction() syntax.Expr {
	return p.chain("and", syntax.And, p.negation)
}

func (p parser) negation() syntax.Expr {
	if p.Accept("not") {
		return syntax.Expr{Op: syntax.Not, Args: []syntax.Expr{p.negation()}}
	}
	return p.comparison()
}

func (p parser) comparison() syntax.Expr {
	e := p.sum()
	for i, symbol := range comparisons {
		if p.Accept(symbol) {
			return binary(syntax.Le+syntax.Op(i), e, p.sum())
		}
	}
	return e
}

func (p parser) sum() syntax.Expr {
	return p.chain("+", syntax.Add, p.primary)
}

func (p parser) primary() syntax.Expr {
	switch {
	case p.Peek().Kind == token.Number:
		return syntax.Expr{Op: syntax.Number, N: p.Next().N}
	case p.Accept("true"):
		return syntax.Expr{Op: syntax.True}
	case p.Accept("false"):
		return syntax.Expr{Op: syntax.False}
	case p.Accept("count"):
		return syntax.Expr{Op: syntax.Count, Names: p.inParentheses(p.names)}
	case p.Accept("members"):
		return syntax.Expr{Op: syntax.Members, Names: p.inParentheses(p.name)}
	case p.Accept("("):
		e := p.expression()
		p.Expect(")")
		return e
	}
	return syntax.Expr{Op: syntax.Role, Names: p.name()}
}

// chain reads operands with a left-associative operator between each two.
func (p parser) chain(word string, o syntax.Op, operand func() syntax.Expr) syntax.Expr {
	e := operand()
	for p.Accept(word) {
		e = binary(o, e, operand())
	}
	return e
}

// inParentheses reads names that stand in parentheses.
func (p parser) inParentheses(names func() []string) []string {
	p.Expect("(")
	l := names()
	p.Expect(")")
	return l
}

// names reads one or more names.
func (p parser) names() []string {
	l := p.name()
	for p.Accept(",") {
		l = append(l, p.Name())
	}
	return l
}

// name reads one name.
func (p parser) name() []string {
	return []string{p.Name()}
}

// binary returns the expression of an operator with two operands.
func binary(o syntax.Op, a, b syntax.Expr) syntax.Expr {
	return syntax.Expr{Op: o, Args: []syntax.Expr{a, b}}
}
