package expr

import (
	"reflect"
	"testing"

	"lathe/api"
	"lathe/read"
	"lathe/value"
)

// datum reads a text of one datum.
func datum(t *testing.T, text string) value.Value {
	t.Helper()
	data, e, at := read.Data(text)
	if e != api.OK || len(data) != 1 {
		t.Fatalf("Data(%q) = %v, %d, %d", text, data, e, at)
	}
	return data[0]
}

func TestOf(t *testing.T) {
	one, two := Const{value.Int(1)}, Const{value.Int(2)}
	f, x, y := Var{"f"}, Var{"x"}, Var{"y"}
	for text, want := range map[string]Expr{
		"1":                            one,
		"#f":                           Const{value.Bool(false)},
		"x":                            x,
		"'if":                          Const{value.Symbol("if")},
		"(quote ())":                   Const{value.Empty{}},
		"'(x 1)":                       Const{value.List(value.Symbol("x"), value.Int(1))},
		"(if x 1 2)":                   If{x, one, two},
		"(if x 1)":                     If{x, one, Const{value.Nothing{}}},
		"(define x 1)":                 Define{"x", one},
		"(define (f) 1)":               Define{"f", Lambda{"f", nil, one}},
		"(define (f x f) x y)":         Define{"f", Lambda{"f", []string{"x", "f"}, Seq{[]Expr{x, y}}}},
		"(set! x y)":                   Set{"x", y},
		"(lambda () 1)":                Lambda{"", nil, one},
		"(lambda (x y) 1 2)":           Lambda{"", []string{"x", "y"}, Seq{[]Expr{one, two}}},
		"(begin x)":                    x,
		"(begin x 1 y)":                Seq{[]Expr{x, one, y}},
		"(let () 1)":                   Apply{[]Expr{Lambda{"", nil, one}}},
		"(let ((x 1) (y 2)) x y)":      Apply{[]Expr{Lambda{"", []string{"x", "y"}, Seq{[]Expr{x, y}}}, one, two}},
		"((lambda (x y) x y) 1 2)":     Apply{[]Expr{Lambda{"", []string{"x", "y"}, Seq{[]Expr{x, y}}}, one, two}},
		"(f)":                          Apply{[]Expr{f}},
		"(f x (define y 1))":           Apply{[]Expr{f, x, Define{"y", one}}},
		"(1 2)":                        Apply{[]Expr{one, two}},
		"((if x f) 1)":                 Apply{[]Expr{If{x, f, Const{value.Nothing{}}}, one}},
		"(let ((x (let () 1))) 'x)":    Apply{[]Expr{Lambda{"", []string{"x"}, Const{value.Symbol("x")}}, Apply{[]Expr{Lambda{"", nil, one}}}}},
		"(define x (begin (f) 'f))":    Define{"x", Seq{[]Expr{Apply{[]Expr{f}}, Const{value.Symbol("f")}}}},
		"(define x (lambda () 1))":     Define{"x", Lambda{"x", nil, one}},
		"(define x (f (lambda () 1)))": Define{"x", Apply{[]Expr{f, Lambda{"", nil, one}}}},
		"(set! x (lambda (f) f))":      Set{"x", Lambda{"", []string{"f"}, f}},
		"(define (f) (define x 1))":    Define{"f", Lambda{"f", nil, Define{"x", one}}},
		"(begin (begin x y) (f))":      Seq{[]Expr{Seq{[]Expr{x, y}}, Apply{[]Expr{f}}}},
		"(quote (lambda (x x) (if)))":  Const{datum(t, "(lambda (x x) (if))")},
	} {
		got, ok := Of(datum(t, text))
		if !ok || !reflect.DeepEqual(got, want) {
			t.Errorf("Of(%q) = %v, %v, want %v", text, got, ok, want)
		}
	}
}

func TestOfNone(t *testing.T) {
	for _, text := range []string{
		"()", "if", "(f ())", "(quote)", "(if 1)", "(define)", "(define ())", "(define (f))", "(define 'x 1)", "(set!)",
		"(lambda)", "(lambda ())", "(lambda 'x 1)", "(begin)", "(let)", "(let ())", "(let ('x) 1)", "(let ((x if)) 1)",
	} {
		if got, ok := Of(datum(t, text)); ok || got != nil {
			t.Errorf("Of(%q) = %v, %v", text, got, ok)
		}
	}
	for _, v := range []value.Value{value.Nothing{}, &value.Pair{First: value.Int(1), Rest: value.Int(2)}} {
		if got, ok := Of(v); ok || got != nil {
			t.Errorf("Of(%v) = %v, %v", v, got, ok)
		}
	}
}
