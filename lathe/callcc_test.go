package lathe

import (
	"strings"
	"testing"

	"lathe/api"
)

// withCallCC are programs with call/cc that come to an end, with their value,
// and what has joined the output by then, with a | between.
var withCallCC = []struct{ text, value, output string }{
	// Not taken up, or taken up while p is applied; examples 4 and 5.
	{"(call/cc (lambda (k) 1))", "1", ""},
	{"(call/cc (lambda (k) k))", "#p", ""},
	{"(call/cc (lambda (k) (k 1) (display 2) 3))", "1", ""},
	{"(+ 1 (call/cc (lambda (k) (+ 10 5))))", "16", ""},
	{"(+ 1 (call/cc (lambda (k) (+ 10 (k 5)))))", "6", ""},
	{"(define k #f) (define n 0) (display (+ 100 (call/cc (lambda (c) (set! k c) 1)))) (set! n (+ n 1)) (if (< n 3) (k n) 'end)", "end", "101|101|102"},
	{"(define (f k) (+ 1 (g k))) (define (g k) (display 'g) (* 2 (k 7))) (cons (call/cc f) 8)", "(7 . 8)", "g"},
	{"(call/cc (lambda (a) (cons 1 (call/cc (lambda (b) (a (b 2)))))))", "(1 . 2)", ""},
	{"(call/cc (lambda (a) (cons 1 (call/cc (lambda (b) (b (a 2)))))))", "2", ""},
	// Any value is handed on, and p is any procedure.
	{"(pair? (call/cc (lambda (k) (k '(1 2)))))", "#t", ""},
	{"(call/cc (lambda (k) (k (if #f 1))))", "#n", ""},
	{"(call/cc (lambda (k) (k k)))", "#p", ""},
	{"(call/cc display)", "#n", "#p"},
	{"(call/cc null?)", "#f", ""},
	{"(call/cc call/cc)", "#p", ""},
	{"((call/cc call/cc) (lambda (x) 1))", "1", ""},
	{"(call/cc (call/cc (lambda (k) k)))", "#p", ""},
	{"(+ 1 (call/cc (call/cc (lambda (k) (lambda (c) (c 5))))))", "6", ""},
	{"(define a (call/cc (lambda (c) c))) (define b (call/cc (lambda (c) c))) (if (pair? b) b (b '(1)))", "(1)", ""},
	// Taken up from behind, wherever it stands: an application, from the first expression to the last,
	{"(define k #f) (define l '(1 2)) (display ((call/cc (lambda (c) (set! k c) car)) l)) (if k (let ((c k)) (set! k #f) (c cdr)))", "#n", "1|(2)"},
	{"(define k #f) (display (cons (call/cc (lambda (c) (set! k c) 1)) (display 'a))) (if k (let ((c k)) (set! k #f) (c 2)))", "#n", "a|(1 . #n)|a|(2 . #n)"},
	{"(define k #f) (display (cons (display 'a) (call/cc (lambda (c) (set! k c) 1)))) (if k (let ((c k)) (set! k #f) (c 2)))", "#n", "a|(#n . 1)|(#n . 2)"},
	// the test and the parts of an if,
	{"(define k #f) (display (if (call/cc (lambda (c) (set! k c) #t)) 1 2)) (if k (let ((c k)) (set! k #f) (c #f)))", "#n", "1|2"},
	{"(define k #f) (display (if #t (call/cc (lambda (c) (set! k c) 1)))) (if k (let ((c k)) (set! k #f) (c 2)))", "#n", "1|2"},
	// a define and a set!, in the frame where they stand,
	{"(define k #f) (define x (call/cc (lambda (c) (set! k c) 1))) (display x) (if k (let ((c k)) (set! k #f) (c 2)) x)", "2", "1|2"},
	{"(define k #f) (define x 0) (set! x (call/cc (lambda (c) (set! k c) 1))) (display x) (if k (let ((c k)) (set! k #f) (c 2)) x)", "2", "1|2"},
	{"(define k #f) (define x 0) (define (f) (define x (call/cc (lambda (c) (set! k c) 1))) x) (display (f)) (if k (let ((c k)) (set! k #f) (c 2)) x)", "0", "1|2"},
	// a body and a begin, anywhere but at their end and there,
	{"(define k #f) (define (f) (display 1) (call/cc (lambda (c) (set! k c))) (display 2) 3) (display (f)) (if k (let ((c k)) (set! k #f) (c 9)))", "#n", "1|2|3|2|3"},
	{"(define k #f) (begin (display 1) (call/cc (lambda (c) (set! k c))) (display 2)) (if k (let ((c k)) (set! k #f) (c 9)) 'end)", "end", "1|2|2"},
	{"(define k #f) (define (f) (display 1) (call/cc (lambda (c) (set! k c) 2))) (display (f)) (if k (let ((c k)) (set! k #f) (c 9)))", "#n", "1|2|9"},
	// a form, also the last one.
	{"(define k #f) (call/cc (lambda (c) (set! k c) 1)) (display 2) (if k (let ((c k)) (set! k #f) (c 9)) 'end)", "end", "2|2"},
	{"(define n 0) (define (f) (call/cc (lambda (c) (set! n (+ n 1)) (+ 5 (if (< n 3) (c n) 7))))) (f)", "1", ""},
	{"(define k #f) (define n 0) (define (f) (set! n (+ n 1)) (if (< n 3) (k n) 'end)) (cons (call/cc (lambda (c) (set! k c) 0)) (f))", "(2 . end)", ""},
	// What has a value already keeps it; what variables have, and what was displayed, is not taken back.
	{"(define k #f) (define n 1) (display (+ n (call/cc (lambda (c) (set! k c) 10)))) (set! n (+ n 1)) (if (< n 4) (k n) n)", "4", "11|3|4"},
	{"(let ((x 5)) (call/cc (lambda (k) (set! x 6) (k 0))) x)", "6", ""},
	{"(define k #f) (define (f x) (call/cc (lambda (c) (if k 0 (set! k c)))) (set! x (+ x 1)) x) (define n (f 1)) (display n) (if (< n 4) (k 0) n)", "4", "2|3|4"},
	{"(define n 0) (define k (call/cc (lambda (c) c))) (define (f) n) (set! n (+ n 1)) (if (< n 3) (k k) (f))", "3", ""},
	// An application that is come to again makes a frame of its own.
	{"(define k #f) (define l '()) (let ((x (call/cc (lambda (c) (set! k c) 0)))) (set! l (cons (lambda () (set! x (+ x 10)) x) l)) " +
		"(if (< x 2) (k (+ x 1)))) (define (call f) (f)) (display (call (car l))) (display (call (car (cdr l)))) (call (car l))", "22", "12|11"},
	// Two ways that take one another up.
	{"(define (walk l k) (if (null? l) (k 'end) (walk (cdr l) (call/cc (lambda (c) (k (cons (car l) c))))))) " +
		"(define (next c) (call/cc (lambda (k) (if c (c k) (walk '(1 2 3) k))))) " +
		"(define (all c) (let ((p (next c))) (if (pair? p) (begin (display (car p)) (all (cdr p))) p))) (all #f)", "end", "1|2|3"},
	{"(define (find l k) (if (null? l) 'none (if (< (car l) 0) (k (car l)) (find (cdr l) k)))) " +
		"(cons (call/cc (lambda (k) (find '(3 -4 -5) k))) (call/cc (lambda (k) (find '(3) k))))", "(-4 . none)", ""},
	// What one applied call/cc gave is the same, of another one not.
	{"(call/cc (lambda (k) (eq? k k)))", "#t", ""},
	{"(call/cc (lambda (a) (call/cc (lambda (b) (eq? a b)))))", "#f", ""},
	{"(define n 0) (define l (cons 0 (call/cc (lambda (c) c)))) (define k (cdr l)) (set! n (+ n 1)) (if (< n 3) (k k) (eq? (cdr l) k))", "#t", ""},
	{"(define l '()) (define k (call/cc (lambda (c) c))) (set! l (cons (call/cc (lambda (c) c)) l)) (if (null? (cdr l)) (k k) (eq? (car l) (car (cdr l))))", "#f", ""},
	// It is a variable as any other.
	{"(define (call/cc f) (f 3)) (call/cc (lambda (x) (+ x x)))", "6", ""},
	{"(let ((c call/cc)) (+ 1 (c (lambda (k) (k 1)))))", "2", ""},
}

func TestCallCC(t *testing.T) {
	for _, c := range withCallCC {
		output := strings.FieldsFunc(c.output, func(r rune) bool { return r == '|' })
		says(t, c.text, c.value, output...)
	}
}

// callCCs are programs with call/cc, whatever comes of them.
func callCCs() []string {
	texts := []string{
		"(define n 0) (define k (call/cc (lambda (c) c))) (set! n (+ n 1)) (display n) (k k)",
		"(define (f) (+ 1 (call/cc (lambda (k) (f))))) (f)",
		"(define k #f) (define (f n) (if (= n 0) (call/cc (lambda (c) (set! k c) 0)) (+ 1 (f (- n 1))))) (display (f 9)) (k 5)",
		"(call/cc (lambda (k) (call/cc (lambda (c) (+ 1 (c 2 (k 3)))))))",
		"(let ((y (call/cc (lambda (c) c)))) (display 'a) (let ((z (call/cc (lambda (c) c)))) (display 'b) (y z)))",
	}
	for _, c := range withCallCC {
		texts = append(texts, c.text)
	}
	return texts
}

func TestCallCCBreaks(t *testing.T) {
	for _, c := range []struct {
		text  string
		want  api.Errno
		depth int
	}{
		{"(call/cc x)", api.ErrUnbound, 1},
		{"(call/cc 1)", api.ErrApply, 0}, {"(+ 1 (call/cc 'car))", api.ErrApply, 1}, {"(call/cc '())", api.ErrApply, 0},
		{"(call/cc (if #f 1))", api.ErrApply, 0}, {"(if (call/cc '(1)) 1)", api.ErrApply, 1}, {"(call/cc #f)", api.ErrApply, 0},
		{"(call/cc)", api.ErrArgs, 0}, {"(call/cc car car)", api.ErrArgs, 0}, {"(+ 1 (call/cc 1 2))", api.ErrArgs, 1},
		{"(call/cc (lambda () 1))", api.ErrArgs, 0}, {"(call/cc (lambda (a b) 1))", api.ErrArgs, 0}, {"(call/cc cons)", api.ErrArgs, 0},
		{"(call/cc car)", api.ErrType, 0}, {"(begin (call/cc cdr) 1)", api.ErrType, 1}, {"(call/cc +)", api.ErrArgs, 0},
		{"(+ 1 (call/cc (lambda (k) k)))", api.ErrType, 0}, {"(call/cc (lambda (k) (+ k 1)))", api.ErrType, 0},
		{"(call/cc (lambda (k) (k)))", api.ErrArgs, 0}, {"(call/cc (lambda (k) (k 1 2)))", api.ErrArgs, 0},
		{"(+ 1 (call/cc (lambda (k) (+ 10 (k)))))", api.ErrArgs, 2},
		{"(+ 1 (call/cc (lambda (k) (+ 10 (k x)))))", api.ErrUnbound, 3},
		// What is done with a value fails as it would without call/cc.
		{"(+ 1 (call/cc (lambda (k) (* 2 (+ 10 (k 'a))))))", api.ErrType, 0},
		{"(if ((call/cc (lambda (k) (* 2 (k 7)))) 1) 2)", api.ErrApply, 1},
		{"(+ x (call/cc (lambda (k) (set! y (k 5)))))", api.ErrUnbound, 1},
		{"(+ (call/cc (lambda (k) (begin (k 5) 1))) x)", api.ErrUnbound, 1},
		{"(begin (set! x (call/cc (lambda (k) (+ 1 (k 5))))) 1)", api.ErrUnbound, 1},
		{"(define (f) (+ 1 (call/cc (lambda (k) (f))))) (f)", api.ErrDeep, 200},
		{"(define (f) (call/cc (lambda (k) (f) 1))) (f)", api.ErrDeep, 200},
		{"(define (f) (call/cc (lambda (k) (k (f))))) (f)", api.ErrDeep, 200},
	} {
		breaks(t, c.text, c.want, c.depth)
	}
	var all []string
	for range api.MaxOutput {
		all = append(all, "a")
	}
	breaks(t, "(define k (call/cc (lambda (c) c))) (begin (display 'a) (k k))", api.ErrFull, 1, all...)
}

// P5, P6: the machine can be held ahead of each application: that of call/cc,
// that of p, and that of what call/cc gave.
func TestCallCCMade(t *testing.T) {
	m := started(t, "(+ 1 (call/cc (lambda (k) (+ 10 (k 5)))))")
	goes(t, m, 0, 0, api.Look{Depth: 1})
	goes(t, m, 1, 1, api.Look{Depth: 1})
	goes(t, m, 0, 0, api.Look{Depth: 1})
	goes(t, m, 1, 1, api.Look{Depth: 2})
	goes(t, m, 1, 1, api.Look{})
	goes(t, m, 9, 1, api.Look{State: api.Done, Value: "6"})

	m = started(t, "(begin (call/cc 1) 2)")
	goes(t, m, 1, 1, api.Look{Depth: 1})
	goes(t, m, 1, 1, api.Look{State: api.Failed, Error: api.ErrApply, Depth: 1})
	goes(t, m, 1, 0, api.Look{State: api.Failed, Error: api.ErrApply, Depth: 1})
	goes(t, started(t, "(begin (call/cc 1) 2)"), 9, 2, api.Look{State: api.Failed, Error: api.ErrApply, Depth: 1})
	goes(t, started(t, "(call/cc)"), 9, 1, api.Look{State: api.Failed, Error: api.ErrArgs})
	goes(t, started(t, "(call/cc car)"), 9, 2, api.Look{State: api.Failed, Error: api.ErrType})

	m = started(t, "(call/cc call/cc)") // the third one is that of what the first one gave
	goes(t, m, 2, 2, api.Look{})
	goes(t, m, 9, 1, api.Look{State: api.Done, Value: "#p"})

	m = started(t, "(call/cc (lambda (k) (k 1))) (call/cc display)")
	goes(t, m, 4, 4, api.Look{})
	if got := m.Output(); len(got) != 0 {
		t.Errorf("P5: Output ahead of display: %q", got)
	}
	goes(t, m, 9, 1, api.Look{State: api.Done, Value: "#n"})
}

// P5, P6: what is taken up is so deep as it was, however deep it is left.
func TestCallCCDepth(t *testing.T) {
	m := started(t, "(define k #f) (define (f n) (if (= n 0) (call/cc (lambda (c) (set! k c) (k 0))) (+ 1 (f (- n 1))))) "+
		"(define (g n) (if (= n 0) (k 1) (+ 1 (g (- n 1))))) (f 20) (g 50)")
	goes(t, m, 62, 62, api.Look{Depth: 20}) // 20 times f, =, -; then f and =: call/cc is to be applied
	goes(t, m, 1, 1, api.Look{Depth: 20})
	goes(t, m, 1, 1, api.Look{Depth: 20})
	goes(t, m, 1, 1, api.Look{Depth: 19}) // the innermost +
	goes(t, m, 20, 20, api.Look{})        // g
	goes(t, m, 152, 152, api.Look{Depth: 50})
	for range 3 { // what k does comes to g again
		goes(t, m, 1, 1, api.Look{Depth: 19})
		goes(t, m, 172, 172, api.Look{Depth: 50})
	}
}

// P8: call/cc at an end goes no deeper, nor does what it gave, anywhere.
func TestCallCCGoesNoDeeper(t *testing.T) {
	for text, deepest := range map[string]int{
		"(define (f) (call/cc (lambda (k) (f)))) (f)":                                                                                        0,
		"(define (f k) (call/cc f)) (f 1)":                                                                                                   0,
		"(define (f k) 1 (begin 2 (if #t (let () (call/cc f))))) (f 1)":                                                                      0,
		"(define n 0) (define k (call/cc (lambda (c) c))) (set! n (+ n 1)) (if (< n 9000) (k k) n)":                                          2,
		"(define k (call/cc (lambda (c) c))) (+ 1 (begin (k k) 2))":                                                                          2,
		"(define (f g) (+ 1 (call/cc (lambda (k) (+ 2 (f k))))))  (define k #f) (* 2 (call/cc (lambda (c) (set! k c) 1))) (+ 1 (+ 2 (k 3)))": 2,
		"(define (f) (let ((k (call/cc (lambda (c) c)))) (+ 1 (* 2 (k k))))) (- 3 (f))":                                                      3,
	} {
		m := started(t, text)
		for range 2000 {
			m.Run(1)
			if l := m.Look(); l.Depth > deepest || l.State == api.Failed {
				t.Errorf("P8: %q: %+v, want no deeper than %d", text, l, deepest)
				break
			}
		}
		if k, e := m.Run(api.MaxRun); e != api.OK || m.Look().Depth > deepest || (k == api.MaxRun) != (m.Look().State == api.Running) {
			t.Errorf("P8: %q: %d, %d, %+v", text, k, e, m.Look())
		}
	}
}
