package machine

import (
	"errors"
	"reflect"
	"slices"
	"testing"

	"lathe/api"
	"lathe/code"
	"lathe/expr"
	"lathe/read"
	"lathe/value"
)

// machineOf gives a machine for a right text.
func machineOf(t *testing.T, text string) *Machine {
	t.Helper()
	data, e, at := read.Data(text)
	if e != api.OK {
		t.Fatalf("Data(%q): %d, %d", text, e, at)
	}
	var forms []expr.Expr
	for _, d := range data {
		form, ok := expr.Of(d)
		if !ok {
			t.Fatalf("%q is not right", text)
		}
		forms = append(forms, form)
	}
	return New(code.Build(forms))
}

func TestEachKindIsDone(t *testing.T) {
	for op, do := range kinds() {
		if do == nil {
			t.Errorf("nothing does the kind %d", op)
		}
	}
}

// What goes wrong is found again by its type, and tells in which procedure it
// went wrong.
func TestWrongs(t *testing.T) {
	for _, c := range []struct {
		text, told string
		errno      api.Errno
	}{
		{"x", "the program: error 5", api.ErrUnbound},
		{"(set! x 1)", "the program: error 5", api.ErrUnbound},
		{"(define (f) x) (f)", "f: error 5", api.ErrUnbound},
		{"(define f (lambda () (set! x 1))) (f)", "f: error 5", api.ErrUnbound},
		{"((lambda () x))", "a lambda: error 5", api.ErrUnbound},
		{"(let ((f car)) (f 1))", "a lambda: car: error 8", api.ErrType},
		{"(1 2)", "the program: error 6", api.ErrApply},
		{"(define (f x) (x)) (f 1)", "f: error 6", api.ErrApply},
		{"(define (f x) x) (define (g) (f)) (g)", "g: f: error 7", api.ErrArgs},
		{"(define (f x) x) (define (g) (f 1) (+ (f 1))) (g)", "g: +: error 7", api.ErrArgs},
		{"(+ 1 'a)", "the program: +: error 8", api.ErrType},
		{"(define (f x) (+ 1 (g x))) (define (g x) (cdr x)) (f 1)", "g: cdr: error 8", api.ErrType},
		{"(define (f) (+ 1 (f))) (f)", "f: error 9", api.ErrDeep},
		{"(call/cc)", "the program: call/cc: error 7", api.ErrArgs},
		{"(define (f) (call/cc 1)) (f)", "f: error 6", api.ErrApply},
		{"(define (f k) (k)) (call/cc f)", "f: what call/cc gave: error 7", api.ErrArgs},
		{"(define (f) (call/cc car)) (f)", "f: car: error 8", api.ErrType},
		{"(define (f) (car (call/cc (lambda (k) (k 1))))) (f)", "f: car: error 8", api.ErrType},
		{"(define (o) (display 1) (o)) (o)", "o: display: error 10", api.ErrFull},
	} {
		_, err := machineOf(t, c.text).goOn(1000)
		var w wrong
		if !errors.As(err, &w) || w.errno != c.errno || err.Error() != c.told {
			t.Errorf("%q: %v, want %q", c.text, err, c.told)
		}
	}
}

// A machine that does not go on keeps nothing that was for going on.
func TestNothingIsKept(t *testing.T) {
	for _, text := range []string{"", "(cons 1 2)", "(car (cons 1 (display 2)))", "(+ 1 (car 2))", "(call/cc call/cc)", "(call/cc 1)",
		"(define k (call/cc (lambda (c) c))) (if (pair? k) k (k '(1)))", "(define (f) (+ 1 (f))) (f)"} {
		m := machineOf(t, text)
		m.Run(1000)
		if !reflect.DeepEqual(m.registers, registers{}) || m.running() {
			t.Errorf("%q: %+v", text, m)
		}
	}
}

// Entries of a stack are not changed by what happens to them later.
func TestEntriesStay(t *testing.T) {
	lowest := &entry{to: 1}
	e := (&entry{below: lowest, depth: 1, to: 2}).with(value.Int(1))
	was := *e
	b, c := e.until(3).with(value.Int(2)), e.with(value.Int(3)).with(value.Int(4))
	if *e != was {
		t.Errorf("an entry was changed: %v", *e)
	}
	for _, one := range []struct {
		e    *entry
		to   int
		want []value.Value
	}{
		{lowest, 1, nil},
		{e, 2, []value.Value{value.Int(1)}},
		{b, 3, []value.Value{value.Int(1), value.Int(2)}},
		{c, 2, []value.Value{value.Int(1), value.Int(3), value.Int(4)}},
	} {
		if got := one.e.values(); !slices.Equal(got, one.want) || one.e.to != one.to {
			t.Errorf("values = %v at %d, want %v at %d", got, one.e.to, one.want, one.to)
		}
	}
	if b.below != lowest || b.depth != 1 || c.below != lowest {
		t.Error("an entry has not kept its place")
	}
}

// The code is shared by machines: a define in a body must not join the names of
// its lambda there.
func TestCodeStays(t *testing.T) {
	text := "(define (f x) (define y 1) (define z 2) (if x (f #f) (+ y z))) (f 1)"
	m, other := machineOf(t, text), machineOf(t, text)
	m.program.Lambdas[0].Names = append(make([]int, 0, 9), m.program.Lambdas[0].Names...)
	m.Run(100)
	if l := m.Look(); l.Value != "3" || !reflect.DeepEqual(m.program, other.program) {
		t.Errorf("%+v, code %v, was %v", l, m.program, other.program)
	}
	if spare := m.program.Lambdas[0].Names[:9]; !slices.Equal(spare[1:], make([]int, 8)) {
		t.Errorf("names behind the lambda's: %v", spare)
	}
}
