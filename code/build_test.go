package code

import (
	"fmt"
	"reflect"
	"slices"
	"strings"
	"testing"

	"lathe/api"
	"lathe/expr"
	"lathe/read"
	"lathe/value"
)

// programOf gives the code of a right text.
func programOf(t *testing.T, text string) *Program {
	t.Helper()
	data, e, at := read.Data(text)
	if e != api.OK {
		t.Fatalf("Data(%q): %d, %d", text, e, at)
	}
	var forms []expr.Expr
	for _, d := range data {
		form, ok := expr.Of(d)
		if !ok {
			t.Fatalf("%q is not right", text)
		}
		forms = append(forms, form)
	}
	return Build(forms)
}

// tell writes the code down, a line for an instruction, with the names in place
// of their numbers.
func tell(p *Program) string {
	words := [Ops]string{"form", "const", "load", "make", "pend", "join", "next", "drop", "branch", "define", "set",
		"ready", "apply", "return", "halt"}
	var lines []string
	for _, in := range p.Instrs {
		line := words[in.Op]
		switch in.Op {
		case Const:
			line += " " + fmt.Sprint(p.Consts[in.N])
		case Load, Define, Set:
			line += " " + p.Names[in.N]
		case Make, Form, Pend, Join, Next, Branch:
			line += " " + fmt.Sprint(in.N)
		}
		lines = append(lines, line)
	}
	return strings.Join(lines, "\n")
}

func TestBuild(t *testing.T) {
	for text, want := range map[string]string{
		"":      "halt",
		"7 x":   "form 3, const 7, return, form 6, load x, return, halt",
		"(f)":   "form 5, pend 3, load f, ready, apply, halt",
		"(f x)": "form 7, pend 3, load f, join 5, load x, ready, apply, halt",
		"(f (g) 1)": "form 12, pend 3, load f, join 8, pend 6, load g, ready, apply, " +
			"join 10, const 1, ready, apply, halt",
		"(if a 1 2)":   "form 8, pend 3, load a, branch 6, const 1, return, const 2, return, halt",
		"(if a 1)":     "form 8, pend 3, load a, branch 6, const 1, return, const {}, return, halt",
		"(define x 1)": "form 5, pend 3, const 1, define x, return, halt",
		"(set! x y)":   "form 5, pend 3, load y, set x, return, halt",
		"(begin x)":    "form 3, load x, return, halt",
		"(begin x y z)": "form 8, pend 3, load x, next 5, load y, drop, load z, return, " +
			"halt",
		"(f (begin x y))": "form 10, pend 3, load f, join 8, pend 6, load x, drop, load y, " +
			"ready, apply, halt",
		"(f (if a b c))": "form 13, pend 3, load f, join 11, pend 6, load a, branch 9, load b, return, load c, return, " +
			"ready, apply, halt",
		"(f (set! x 1))":           "form 9, pend 3, load f, join 7, pend 6, const 1, set x, ready, apply, halt",
		"(lambda (x) x)":           "form 3, make 0, return, halt, load x, return",
		"(define (f) (f))":         "form 5, pend 3, make 0, define f, return, halt, pend 8, load f, ready, apply",
		"(let ((x 1)) x)":          "form 7, pend 3, make 0, join 5, const 1, ready, apply, halt, load x, return",
		"(lambda () (lambda ()7))": "form 3, make 0, return, halt, make 1, return, const 7, return",
	} {
		if got := strings.ReplaceAll(tell(programOf(t, text)), "\n", ", "); got != want {
			t.Errorf("the code of %q:\n%s\nwant\n%s", text, got, want)
		}
	}
}

func TestLambdas(t *testing.T) {
	p := programOf(t, "(lambda (y x) (lambda () x)) (define (f x) y)")
	lambdas := []Lambda{{"", []int{0, 1}, 9}, {"f", []int{1}, 11}, {"", nil, 13}}
	if !slices.Equal(p.Names, []string{"y", "x", "f"}) {
		t.Errorf("Names = %v", p.Names)
	}
	if !reflect.DeepEqual(p.Lambdas, lambdas) {
		t.Errorf("Lambdas = %v, want %v\n%s", p.Lambdas, lambdas, tell(p))
	}
}

// Data that look the same are not: each has a place of its own.
func TestConstsOfTheirOwn(t *testing.T) {
	p := programOf(t, "'(a) '(a)")
	if len(p.Consts) != 2 || p.Consts[0] == p.Consts[1] {
		t.Errorf("Consts = %v", p.Consts)
	}
	if items, ok := value.Items(p.Consts[0]); !ok || !slices.Equal(items, []value.Value{value.Symbol("a")}) {
		t.Errorf("the first one is %v", p.Consts[0])
	}
}

// walker goes every way through the code, to see that what is pending is always
// taken up where it said, and that every way ends.
type walker struct {
	t     *testing.T
	p     *Program
	seen  []bool
	halts bool
	steps int
}

// enough steps for each program here; wrong code may go round for ever.
const enough = 100000

// walk goes on at a place, with the places where what is pending is taken up.
// Each lambda is walked by itself: it ends where it goes on at an empty stack.
func (w *walker) walk(at int, pending []int) {
	w.t.Helper()
	for ; w.steps < enough; w.steps++ {
		if at < 0 || at >= len(w.p.Instrs) {
			w.t.Errorf("the code is left at %d:\n%s", at, tell(w.p))
			return
		}
		w.seen[at] = true
		in := w.p.Instrs[at]
		switch in.Op {
		case Join, Next, Drop, Branch, Define, Set, Ready:
			if len(pending) == 0 || pending[len(pending)-1] != at {
				w.t.Errorf("at %d pending is %v:\n%s", at, pending, tell(w.p))
				return
			}
			pending = pending[:len(pending)-1]
		}
		switch in.Op {
		case Form:
			if len(pending) > 0 {
				w.t.Errorf("at %d pending is %v:\n%s", at, pending, tell(w.p))
			}
			w.walk(in.N, nil)
		case Pend, Join, Next:
			pending = append(slices.Clone(pending), in.N)
		case Branch:
			w.walk(in.N, pending)
		case Apply, Return:
			if len(pending) == 0 {
				return
			}
			at = pending[len(pending)-1] - 1
		case Halt:
			w.halts = true
			return
		}
		at++
	}
}

func TestEveryWay(t *testing.T) {
	for _, text := range []string{
		"",
		"1 x '(a)",
		"(f (g (h 1) 2) (lambda (x) (x (x x))))",
		"(define (fact n) (if (= n 0) 1 (* n (fact (- n 1))))) (fact 5)",
		"(if (if (if a b) c (f)) (if (g) (begin 1 2) 3) (if a (h 1) (set! x (if 1 (f) 2))))",
		"(begin (begin 1 (f)) (if (begin 1 2) 3) (begin (define x (begin (f) 1)) (g)))",
		"(let ((x (let ((y 1)) (if y (f) y))) (z (lambda () (let () (begin 1 (let () 2)))))) (f) (set! x (z)) (if x (z) x))",
		"((if (f) (lambda () (define (g) (g)) (g)) car))",
		"(define k #f) (define n 0) (display (+ 100 (call/cc (lambda (c) (set! k c) 1)))) (set! n (+ n 1)) (if (< n 3) (k n) 'end)",
		strings.Repeat("(if ", 8) + "1 2" + strings.Repeat(") 3", 7) + ")",
	} {
		p := programOf(t, text)
		w := &walker{t: t, p: p, seen: make([]bool, len(p.Instrs))}
		w.walk(0, nil)
		for _, l := range p.Lambdas {
			w.walk(l.Entry, nil)
		}
		if !w.halts || w.steps >= enough || slices.Contains(w.seen, false) {
			t.Errorf("of %q not all is come to: %v\n%s", text, w.seen, tell(p))
		}
	}
}
