// Package expr: from data to the expressions that they are.
package expr

import (
	"slices"

	"lathe/value"
)

// Expr is one of the kinds below. let, and define of a procedure, are none of
// their own: they are told by the others, as the document says.
type Expr interface {
	isExpr()
}

// Const is what is itself, or a datum of quote.
type Const struct {
	Value value.Value
}

// Var is a variable.
type Var struct {
	Name string
}

// If is an if; without a third part, its Else is the Const nothing.
type If struct {
	Test, Then, Else Expr
}

// Define is a define.
type Define struct {
	Name  string
	Value Expr
}

// Set is a set!.
type Set struct {
	Name  string
	Value Expr
}

// Lambda is a lambda.
type Lambda struct {
	Name  string // the variable that is defined as it, if one is
	Names []string
	Body  Expr
}

// Seq is a sequence of two expressions or more. One of a single expression is
// that expression: nothing is ever pending for it.
type Seq struct {
	Parts []Expr
}

// Apply is an application; its first part is what is applied.
type Apply struct {
	Parts []Expr
}

func (Const) isExpr()  {}
func (Var) isExpr()    {}
func (If) isExpr()     {}
func (Define) isExpr() {}
func (Set) isExpr()    {}
func (Lambda) isExpr() {}
func (Seq) isExpr()    {}
func (Apply) isExpr()  {}

// Of gives the expression that a datum is, and whether it is one; nil, if not.
func Of(datum value.Value) (Expr, bool) {
	switch d := datum.(type) {
	case value.Int, value.Bool:
		return Const{d}, true
	case value.Symbol:
		return reference(d)
	case *value.Pair:
		parts, ok := value.Items(d)
		if !ok {
			return nil, false
		}
		return ofList(parts)
	}
	return nil, false
}

func reference(symbol value.Symbol) (Expr, bool) {
	name, ok := variable(symbol)
	if !ok {
		return nil, false
	}
	return Var{name}, true
}

func ofList(parts []value.Value) (Expr, bool) {
	first, _ := parts[0].(value.Symbol)
	switch first {
	case "quote":
		return quote(parts[1:])
	case "if":
		return choice(parts[1:])
	case "define":
		return define(parts[1:])
	case "set!":
		return set(parts[1:])
	case "lambda":
		return lambda(parts[1:])
	case "begin":
		return sequence(parts[1:])
	case "let":
		return let(parts[1:])
	}
	return application(parts)
}

func quote(parts []value.Value) (Expr, bool) {
	if len(parts) != 1 {
		return nil, false
	}
	return Const{parts[0]}, true
}

func choice(parts []value.Value) (Expr, bool) {
	if len(parts) != 2 && len(parts) != 3 {
		return nil, false
	}
	all, ok := each(parts)
	if !ok {
		return nil, false
	}
	if len(all) == 2 {
		all = append(all, Const{value.Nothing{}})
	}
	return If{all[0], all[1], all[2]}, true
}

func define(parts []value.Value) (Expr, bool) {
	if len(parts) == 0 {
		return nil, false
	}
	if head, ok := value.Items(parts[0]); ok {
		return defineProcedure(head, parts[1:])
	}
	name, a, ok := nameAndValue(parts)
	if !ok {
		return nil, false
	}
	return defineAs(name, a), true
}

func defineProcedure(head, body []value.Value) (Expr, bool) {
	if len(head) == 0 {
		return nil, false
	}
	name, isVariable := variable(head[0])
	a, isProcedure := procedure(head[1:], body)
	if !isVariable || !isProcedure {
		return nil, false
	}
	return defineAs(name, a), true
}

// defineAs lets a lambda know its name, so that a failure can tell where it was.
func defineAs(name string, a Expr) Expr {
	if l, ok := a.(Lambda); ok {
		l.Name = name
		a = l
	}
	return Define{name, a}
}

func set(parts []value.Value) (Expr, bool) {
	name, a, ok := nameAndValue(parts)
	if !ok {
		return nil, false
	}
	return Set{name, a}, true
}

func lambda(parts []value.Value) (Expr, bool) {
	if len(parts) == 0 {
		return nil, false
	}
	names, ok := value.Items(parts[0])
	if !ok {
		return nil, false
	}
	return procedure(names, parts[1:])
}

func let(parts []value.Value) (Expr, bool) {
	if len(parts) == 0 {
		return nil, false
	}
	bindings, isList := value.Items(parts[0])
	names, values, arePairs := split(bindings)
	p, isProcedure := procedure(names, parts[1:])
	all, ok := each(values)
	if !isList || !arePairs || !isProcedure || !ok {
		return nil, false
	}
	return Apply{slices.Insert(all, 0, p)}, true
}

// split takes the lists (x a) of a let apart.
func split(bindings []value.Value) (names, values []value.Value, ok bool) {
	for _, binding := range bindings {
		both, isList := value.Items(binding)
		if !isList || len(both) != 2 {
			return nil, nil, false
		}
		names = append(names, both[0])
		values = append(values, both[1])
	}
	return names, values, true
}

func application(parts []value.Value) (Expr, bool) {
	all, ok := each(parts)
	if !ok {
		return nil, false
	}
	return Apply{all}, true
}

// nameAndValue reads the parts x and a, of a define or a set!.
func nameAndValue(parts []value.Value) (string, Expr, bool) {
	if len(parts) != 2 {
		return "", nil, false
	}
	name, isVariable := variable(parts[0])
	a, isExpr := Of(parts[1])
	return name, a, isVariable && isExpr
}

func procedure(names, body []value.Value) (Expr, bool) {
	all, areVariables := variables(names)
	a, isBody := sequence(body)
	if !areVariables || !isBody {
		return nil, false
	}
	return Lambda{Names: all, Body: a}, true
}

func sequence(parts []value.Value) (Expr, bool) {
	all, ok := each(parts)
	if !ok || len(all) == 0 {
		return nil, false
	}
	if len(all) == 1 {
		return all[0], true
	}
	return Seq{all}, true
}

// each gives the expressions that all of these are.
func each(data []value.Value) ([]Expr, bool) {
	var all []Expr
	for _, d := range data {
		e, ok := Of(d)
		if !ok {
			return nil, false
		}
		all = append(all, e)
	}
	return all, true
}

// variables gives the names of a lambda, no two the same.
func variables(data []value.Value) ([]string, bool) {
	var names []string
	for _, d := range data {
		name, ok := variable(d)
		if !ok || slices.Contains(names, name) {
			return nil, false
		}
		names = append(names, name)
	}
	return names, true
}

func variable(datum value.Value) (string, bool) {
	symbol, ok := datum.(value.Symbol)
	if !ok || isKeyword(symbol) {
		return "", false
	}
	return string(symbol), true
}

func isKeyword(symbol value.Symbol) bool {
	switch symbol {
	case "quote", "if", "define", "set!", "lambda", "begin", "let":
		return true
	}
	return false
}
