package syntax

import (
	"strconv"
	"strings"

	"arbac/api"
)

// How strongly operators bind, the weakest first.
const (
	implies = 1 + iota
	or
	and
	not
	comparison
	sum
	primary
)

// form is how the text of an operator looks: its symbol, how strongly it binds, and how strongly its left and its right operand must bind at least.
type form struct {
	symbol             string
	binds, left, right int
}

// forms are those of the operators, by their numbers; the first one is that of no operator.
var forms = [...]form{
	{},
	{"", primary, 0, 0},
	{"true", primary, 0, 0},
	{"false", primary, 0, 0},
	{"", primary, 0, 0},
	{"count", primary, 0, 0},
	{"members", primary, 0, 0},
	{"not", not, 0, not},
	{"and", and, and, not},
	{"or", or, or, and},
	{"->", implies, or, implies},
	{"<=", comparison, sum, sum},
	{"<", comparison, sum, sum},
	{">=", comparison, sum, sum},
	{">", comparison, sum, sum},
	{"==", comparison, sum, sum},
	{"+", sum, sum, primary},
}

// PrintExpr returns the canonical text of an expression.
func PrintExpr(e Expr) string {
	if CheckExpr(e) != api.OK {
		return ""
	}
	var b strings.Builder
	printExpr(&b, e)
	return b.String()
}

// Print returns the canonical text of constraints.
func Print(l []Constraint) string {
	if Check(l) != api.OK {
		return ""
	}
	return text(l)
}

// text returns the canonical text of constraints that are accepted one by one.
func text(l []Constraint) string {
	var b strings.Builder
	for _, c := range l {
		b.WriteString(purpose(c.Enforce) + " " + kind(c.Kind) + " " + c.Name + ": ")
		printExpr(&b, c.Expr)
		b.WriteString(";\n")
	}
	return b.String()
}

// purpose returns the word for constraints that are enforced, or not.
func purpose(enforce bool) string {
	if enforce {
		return "enforce"
	}
	return "declare"
}

// kind returns the word for a kind.
func kind(k Kind) string {
	switch k {
	case Static:
		return "static"
	case Dynamic:
		return "dynamic"
	}
	return "users"
}

// printExpr writes an expression that is accepted.
func printExpr(b *strings.Builder, e Expr) {
	f := forms[e.Op]
	switch len(e.Args) {
	case 2:
		printOperand(b, e.Args[0], f.left)
		b.WriteString(" " + f.symbol + " ")
		printOperand(b, e.Args[1], f.right)
	case 1:
		b.WriteString(f.symbol + " ")
		printOperand(b, e.Args[0], f.right)
	default:
		printPrimary(b, e)
	}
}

// printOperand writes an operand, in parentheses if it does not bind as strongly as it must.
func printOperand(b *strings.Builder, e Expr, least int) {
	if forms[e.Op].binds >= least {
		printExpr(b, e)
		return
	}
	b.WriteString("(")
	printExpr(b, e)
	b.WriteString(")")
}

// printPrimary writes an expression without operands.
func printPrimary(b *strings.Builder, e Expr) {
	switch e.Op {
	case Number:
		b.WriteString(strconv.Itoa(e.N))
	case Role:
		b.WriteString(e.Names[0])
	case Count, Members:
		b.WriteString(forms[e.Op].symbol + "(" + strings.Join(e.Names, ", ") + ")")
	default:
		b.WriteString(forms[e.Op].symbol)
	}
}
