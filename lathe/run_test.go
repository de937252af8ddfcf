package lathe

import (
	"slices"
	"strconv"
	"strings"
	"testing"

	"lathe/api"
)

// started gives a machine for a right text, and sees that nothing is done (P4).
func started(t *testing.T, text string) *Machine {
	t.Helper()
	c, e, at := Compile(text)
	if e != api.OK {
		t.Fatalf("P3: Compile(%q) = %d, %d", text, e, at)
	}
	m := c.Start()
	if m == nil || m.Look() != (api.Look{State: api.Running}) || len(m.Output()) != 0 {
		t.Fatalf("P4: Start of %q: %+v", text, m)
	}
	return m
}

// goes runs on by n, and sees how many are made and how the machine stands then.
func goes(t *testing.T, m *Machine, n, made int, want api.Look) {
	t.Helper()
	if k, e := m.Run(n); k != made || e != api.OK {
		t.Errorf("P5: Run(%d) = %d, %d, want %d", n, k, e, made)
	}
	if l := m.Look(); l != want {
		t.Errorf("P6: Look = %+v, want %+v", l, want)
	}
}

// says sees what a program's value is, and its output.
func says(t *testing.T, text, want string, output ...string) {
	t.Helper()
	m := started(t, text)
	m.Run(api.MaxRun)
	if l := m.Look(); l != (api.Look{State: api.Done, Value: want}) {
		t.Errorf("P5, P6: %q: %+v, want %q", text, l, want)
	}
	if got := m.Output(); !slices.Equal(got, output) {
		t.Errorf("P6: Output of %q = %q, want %q", text, got, output)
	}
}

// breaks sees with what a program fails, how deep, and its output.
func breaks(t *testing.T, text string, want api.Errno, depth int, output ...string) {
	t.Helper()
	m := started(t, text)
	m.Run(api.MaxRun)
	if l := m.Look(); l != (api.Look{State: api.Failed, Error: want, Depth: depth}) {
		t.Errorf("P5, P6: %q: %+v, want error %d, depth %d", text, l, want, depth)
	}
	if got := m.Output(); !slices.Equal(got, output) {
		t.Errorf("P6: Output of %q = %q, want %q", text, got, output)
	}
}

func TestForms(t *testing.T) {
	for text, want := range map[string]string{
		"": "", "; nothing": "", "1": "1", "1 2 #t": "#t", "7 'a": "a", "'(a (b) ())": "(a (b) ())", "''a": "(quote a)",
		"'(if)": "(if)", "-999999999999999999": "-999999999999999999",
		"car": "#p", "(lambda () 1)": "#p", "(if #f 1)": "#n", "(define x 1)": "#n", "(define x 1) (set! x 2)": "#n",
		"(if #t 1 2)": "1", "(if #f 1 2)": "2", "(if 0 1 2)": "1", "(if '() 1 2)": "1", "(if 'a 1)": "1", "(if (if #f #f) 1 2)": "1",
		"(if #t 1 x)": "1", "(if #f x 2)": "2",
		"(begin 1)": "1", "(begin 1 2 3)": "3", "(begin (define x 1) (set! x (+ x 1)) x)": "2",
		"((lambda () 1 2))": "2", "((lambda (x y) (- x y)) 5 3)": "2", "(let () 5)": "5", "(let ((x 1) (y 2)) x (- x y))": "-1",
		"(define (f x) x) (f 'b)": "b", "(define (f) 1 2) (f)": "2", "(define (f f) f) (f 1)": "1",
		"((if #f + -) 5 2)": "3",
		"(define x 1) (define y (begin (set! x (+ x 1)) x)) (cons x y)": "(2 . 2)",
		"(define (f) '(1 2)) (eq? (f) (f))":                             "#t",
	} {
		says(t, text, want)
	}
}

func TestFrames(t *testing.T) {
	for text, want := range map[string]string{
		"(define x 1) (define (f) x) (let ((x 2)) (f))":                                                "1",
		"(define x 1) (let ((x 2) (y x)) (cons x y))":                                                  "(2 . 1)",
		"(define x 1) (define (f) (define x 5) x) (cons (f) x)":                                        "(5 . 1)",
		"(define x 1) (define (f) (set! x 5) (define x 7) x) (cons (f) x)":                             "(7 . 5)",
		"(define x 1) (define (f) (define y x) (define x 7) (cons x y)) (f)":                           "(7 . 1)",
		"(define (f x) (define x 9) x) (f 1)":                                                          "9",
		"(define (f x) (set! x 9) x) (define x 1) (cons (f 2) x)":                                      "(9 . 1)",
		"(define (f) y) (define y 3) (f)":                                                              "3",
		"(define (f x) (if x (define y 1)) y) (define y 2) (cons (f #t) (f #f))":                       "(1 . 2)",
		"(define (m n) (lambda (d) (set! n (+ n d)) n)) (define p (m 1)) (p 1) (cons (p 1) ((m 5) 1))": "(3 . 6)",
		"(define (f) (define (g) (set! x 2)) (define x 1) (g) x) (f)":                                  "2",
		"(define + -) (+ 5 3)":                                             "2",
		"(define (f car) (car 5)) (f (lambda (x) (cons x x)))":             "(5 . 5)",
		"(set! car cdr) (car '(1 2))":                                      "(2)",
		"(define x 1) (define x 2) x":                                      "2",
		"(define (f n) (if (= n 0) (lambda () n) (f (- n 1)))) ((f 3))":    "0",
		"(((lambda (x) (lambda (y) (cons x y))) 1) 2)":                     "(1 . 2)",
		"(let ((x 1)) (let ((y 2)) (set! x y) (define x 3) (set! x 4)) x)": "2",
	} {
		says(t, text, want)
	}
}

func TestFirstProcedures(t *testing.T) {
	for text, want := range map[string]string{
		"(+ 1 2)": "3", "(- 5 7)": "-2", "(* -3 4)": "-12", "(< 1 2)": "#t", "(< 2 2)": "#f", "(< 3 2)": "#f",
		"(= 2 2)": "#t", "(= 2 3)": "#f", "(cons 1 2)": "(1 . 2)", "(cons 1 (cons 2 3))": "(1 2 . 3)", "(cons 1 '())": "(1)",
		"(car '(1 2))": "1", "(cdr '(1 2))": "(2)", "(cdr '(1))": "()", "(car (cons car 1))": "#p",
		"(null? '())": "#t", "(null? '(1))": "#f", "(null? #f)": "#f", "(null? (if #f 1))": "#f",
		"(pair? '(1))": "#t", "(pair? '())": "#f", "(pair? car)": "#f", "(pair? (cons 1 2))": "#t",
		"(not #f)": "#t", "(not #t)": "#f", "(not 0)": "#f", "(not '())": "#f", "(not (if #f 1))": "#f",
		// Ints wrap round.
		"(define b (* 999999999999999999 9)) (+ b 223372036854775816)":                                    "9223372036854775807",
		"(define b (* 999999999999999999 9)) (+ b 223372036854775817)":                                    "-9223372036854775808",
		"(define b (* 999999999999999999 -9)) (- (- b 223372036854775817) 1)":                             "9223372036854775807",
		"(* 3037000500 3037000500)":                                                                       "-9223372036709301616",
		"(define b (* 999999999999999999 9)) (define c (+ b 223372036854775817)) (cons (* c -1) (- 0 c))": "(-9223372036854775808 . -9223372036854775808)",
		"(define b (* 999999999999999999 9)) (define c (+ b 223372036854775817)) (< c (- c 1))":           "#t",
	} {
		says(t, text, want)
	}
}

func TestSame(t *testing.T) {
	same := []string{
		"1 1", "-1 (- 0 1)", "'a 'a", "#t #t", "#f (not 1)", "'() '()", "'() (cdr '(1))", "(if #f 1) (define x 1)",
		"q q", "(cdr q) (cdr q)", "(e) (e)", "(car (cons q 1)) q", "car car", "f f", "f (car (cons f 1))", "(let ((g car)) g) car",
		"(car (e)) (car (e))", "call/cc call/cc", "k k", "(call/cc (lambda (c) (set! k c) c)) k",
	}
	other := []string{
		"1 2", "1 'a", "'a 'b", "#t #f", "#f '()", "'() (if #f 1)", "0 #f", "1 #t", "'(1) '(1)", "q '(1 2)", "q (cdr q)",
		"(cons 1 2) (cons 1 2)", "car cdr", "(lambda () 1) (lambda () 1)", "(m) (m)", "f car", "q f", "(e) '((a))", "'car car",
		"k (call/cc (lambda (c) c))", "(n) (n)", "k call/cc", "call/cc car",
	}
	check := func(both []string, want string) {
		for _, text := range both {
			says(t, "(define q '(1 2)) (define (e) '((a))) (define (f) 1) (define (m) (lambda () 1)) "+
				"(define (n) (call/cc (lambda (c) c))) (define k (n)) (eq? "+text+")", want)
		}
	}
	check(same, "#t")
	check(other, "#f")
}

func TestOutput(t *testing.T) {
	says(t, "(display 1) (display '(a b)) (display (cons 1 2)) (display display) (display '()) 5", "5", "1", "(a b)", "(1 . 2)", "#p", "()")
	says(t, "(display (display 3))", "#n", "3", "#n")
	says(t, "((begin (display 'p) +) (begin (display 'a) 1) (begin (display 'b) 2))", "3", "p", "a", "b")
	says(t, "(let ((x (display 1)) (y (display 2))) (display 3))", "#n", "1", "2", "3")
	says(t, "(define x (display 1)) (set! x (display 2)) (if (display 3) (display 4) (display 5))", "#n", "1", "2", "3", "4")
	long := strings.Repeat("abcdefghi ", 12)
	says(t, "(display '("+long+"))", "#n", ("(" + long)[:api.MaxTold])
	says(t, "'("+long+")", ("(" + long)[:api.MaxTold])
}

func TestOutputIsFull(t *testing.T) {
	var all []string
	for i := range api.MaxOutput {
		all = append(all, strconv.Itoa(i))
	}
	count := "(define (o n) (if (< n 40) (begin (display n) (o (+ n 1))) 'end)) (o 0) "
	says(t, count, "end", all...)
	breaks(t, count+"(+ 1 (display 5))", api.ErrFull, 1, all...)
	breaks(t, count+"(display)", api.ErrArgs, 0, all...)
	breaks(t, count+"(display 1 2)", api.ErrArgs, 0, all...)
	breaks(t, count+"(display x)", api.ErrUnbound, 1, all...)
}

// An output that was handed out is the caller's.
func TestOutputIsNew(t *testing.T) {
	m := started(t, "(display 1) (display 2) (display 3)")
	m.Run(2)
	list := m.Output()
	for i := range list[:cap(list)] {
		list[:cap(list)][i] = "?"
	}
	_ = append(list, "more")
	if got := m.Output(); !slices.Equal(got, []string{"1", "2"}) {
		t.Errorf("P2: Output = %q", got)
	}
	m.Run(1)
	if got := m.Output(); !slices.Equal(got, []string{"1", "2", "3"}) || list[0] != "?" || list[1] != "?" {
		t.Errorf("P2: Output = %q, the one of before %q", got, list)
	}
}

func TestBreaks(t *testing.T) {
	for _, c := range []struct {
		text  string
		want  api.Errno
		depth int
	}{
		{"x", api.ErrUnbound, 0}, {"(+ 1 x)", api.ErrUnbound, 1}, {"(x 1)", api.ErrUnbound, 1}, {"(if x 1)", api.ErrUnbound, 1},
		{"(if 1 x)", api.ErrUnbound, 0}, {"(begin x 1)", api.ErrUnbound, 1}, {"(begin 1 x)", api.ErrUnbound, 0},
		{"(define x x)", api.ErrUnbound, 1}, {"(set! x 1)", api.ErrUnbound, 0}, {"(set! x (x))", api.ErrUnbound, 2},
		{"(+ 1 (set! x 1))", api.ErrUnbound, 1}, {"(set! x (car 1))", api.ErrType, 1},
		{"((lambda () (define z 1) z)) z", api.ErrUnbound, 0}, {"(let ((a 1) (b a)) b)", api.ErrUnbound, 1},
		{"(define (f) (define y 1) (g)) (define (g) y) (f)", api.ErrUnbound, 0}, {"1 car cadr", api.ErrUnbound, 0},
		{"(1 2)", api.ErrApply, 0}, {"('car 1)", api.ErrApply, 0}, {"((if #f 1))", api.ErrApply, 0}, {"(#f)", api.ErrApply, 0},
		{"('() 1)", api.ErrApply, 0}, {"('(1) 1)", api.ErrApply, 0}, {"(+ 1 (2))", api.ErrApply, 1}, {"(1 x)", api.ErrUnbound, 1},
		{"((lambda (x) x))", api.ErrArgs, 0}, {"((lambda (x) x) 1 2)", api.ErrArgs, 0}, {"((lambda () 1) 1)", api.ErrArgs, 0},
		{"(begin (let ((f (lambda (x y) x))) (f 1)) 1)", api.ErrArgs, 1},
		{"(if (+ 1 2 3) 1)", api.ErrArgs, 1},
		{"(define (f) (+ 1 (f))) (f)", api.ErrDeep, 200},
		{"(define (f) (if (f) 1 2)) (f)", api.ErrDeep, 200},
		{"(define (f) (f) 1) (f)", api.ErrDeep, 200},
		{"(define (f) (define x (f)) x) (f)", api.ErrDeep, 200},
		{"(define (f) (begin (set! x (f)) 1)) (f)", api.ErrDeep, 200},
	} {
		breaks(t, c.text, c.want, c.depth)
	}
	breaks(t, "(set! x (display 1))", api.ErrUnbound, 0, "1")
	breaks(t, "(display 1) (+ (begin (display 2) 1) (car (display 3)) (display 4)) (display 5)", api.ErrType, 1, "1", "2", "3")
	breaks(t, "(1 (display 1))", api.ErrApply, 0, "1")
	breaks(t, "(car (display 1) 2)", api.ErrArgs, 0, "1")
}

// The first procedures ask for so many values, then for their kinds.
func TestFirstProceduresBreak(t *testing.T) {
	kinds := []string{"#t", "#f", "'a", "'()", "'(1)", "(if #f 1)", "car", "(lambda (x) x)"}
	for _, p := range []string{"+", "-", "*", "<", "="} {
		for _, kind := range kinds {
			breaks(t, "("+p+" 1 "+kind+")", api.ErrType, 0)
			breaks(t, "("+p+" "+kind+" 1)", api.ErrType, 0)
			breaks(t, "("+p+" "+kind+")", api.ErrArgs, 0)
			breaks(t, "("+p+" 1 2 "+kind+")", api.ErrArgs, 0)
		}
	}
	for _, p := range []string{"car", "cdr"} {
		for _, kind := range append(slices.DeleteFunc(slices.Clone(kinds), func(k string) bool { return k == "'(1)" }), "0") {
			breaks(t, "("+p+" "+kind+")", api.ErrType, 0)
			breaks(t, "("+p+" "+kind+" 1)", api.ErrArgs, 0)
		}
	}
	for _, p := range []string{"+", "-", "*", "<", "=", "cons", "eq?"} {
		breaks(t, "("+p+")", api.ErrArgs, 0)
		breaks(t, "("+p+" 1)", api.ErrArgs, 0)
		breaks(t, "("+p+" 1 2 3)", api.ErrArgs, 0)
	}
	for _, p := range []string{"car", "cdr", "null?", "pair?", "not", "display", "call/cc"} {
		breaks(t, "("+p+")", api.ErrArgs, 0)
		breaks(t, "("+p+" '(1) '(2))", api.ErrArgs, 0)
	}
}

// down is a program that goes n deep, and comes back.
func down(n int) string {
	return "(define (f n) (if (= n 0) 0 (+ (f (- n 1)) 1))) (f " + strconv.Itoa(n) + ")"
}

func TestDeep(t *testing.T) {
	// At (f k) k are pending for what is around it; then come (if ..) and (= ..).
	says(t, down(api.MaxDepth-2), strconv.Itoa(api.MaxDepth-2))
	breaks(t, down(api.MaxDepth-1), api.ErrDeep, api.MaxDepth)
	m := started(t, down(api.MaxDepth-2))
	deepest := 0
	for m.Look().State == api.Running {
		m.Run(1)
		deepest = max(deepest, m.Look().Depth)
	}
	if deepest != api.MaxDepth-1 { // an application is not pending when it is to be made
		t.Errorf("P6: the depth was %d", deepest)
	}
}

func TestRunArgument(t *testing.T) {
	m := started(t, "(define (f) (f)) (f)")
	goes(t, m, 3, 3, api.Look{})
	for _, n := range []int{-1, api.MaxRun + 1, 1 << 62, -1 << 63} {
		if k, e := m.Run(n); k != 0 || e != api.ErrArg {
			t.Errorf("P5: Run(%d) = %d, %d", n, k, e)
		}
	}
	goes(t, m, 0, 0, api.Look{})
	goes(t, m, api.MaxRun, api.MaxRun, api.Look{})
	for _, text := range []string{"", "x"} {
		m := started(t, text)
		if k, e := m.Run(-1); k != 0 || e != api.ErrArg || m.Look() != (api.Look{}) {
			t.Errorf("P1, P5: of %q Run(-1) = %d, %d, and then %+v", text, k, e, m.Look())
		}
		m.Run(0)
		if k, e := m.Run(api.MaxRun + 1); k != 0 || e != api.ErrArg {
			t.Errorf("P5: of %q, ended, Run = %d, %d", text, k, e)
		}
	}
}

func TestRunSoFar(t *testing.T) {
	m := started(t, "(+ 1 2)") // example 1
	goes(t, m, 0, 0, api.Look{})
	goes(t, m, 5, 1, api.Look{State: api.Done, Value: "3"})
	goes(t, m, 5, 0, api.Look{State: api.Done, Value: "3"})
	goes(t, started(t, "7 'a"), 0, 0, api.Look{State: api.Done, Value: "a"})
	goes(t, started(t, ""), 0, 0, api.Look{State: api.Done})

	m = started(t, "(define (fact n) (if (= n 0) 1 (* n (fact (- n 1))))) (fact 5)") // example 2
	goes(t, m, 3, 3, api.Look{Depth: 1})
	goes(t, m, 18, 18, api.Look{})
	goes(t, m, 1, 1, api.Look{State: api.Done, Value: "120"})

	m = started(t, "(+ 1 (* 2 (car 7)))")
	goes(t, m, 0, 0, api.Look{Depth: 2})
	goes(t, m, 1, 1, api.Look{State: api.Failed, Error: api.ErrType, Depth: 2})
	goes(t, m, 1, 0, api.Look{State: api.Failed, Error: api.ErrType, Depth: 2})

	m = started(t, "(+ 1 2) x (+ 3 4)") // behind the last application that may be made, all else is done
	goes(t, m, 1, 1, api.Look{State: api.Failed, Error: api.ErrUnbound})
	m = started(t, "(define y (+ 1 2)) (begin y (set! y 5) (- y 1)) y")
	goes(t, m, 1, 1, api.Look{})
	goes(t, m, 1, 1, api.Look{State: api.Done, Value: "5"})
	m = started(t, "(1)") // one that fails counts
	goes(t, m, 0, 0, api.Look{})
	goes(t, m, 9, 1, api.Look{State: api.Failed, Error: api.ErrApply})
}

// P8: what ends with an application goes no deeper.
func TestEndsGoNoDeeper(t *testing.T) {
	for text, deepest := range map[string]int{
		"(define (loop i) (if (< i 1000) (loop (+ i 1)) i)) (loop 0)": 1, // example 3; (+ i 1) and (< i 1000) are within one
		"(define (f) (f)) (f)":               0,
		"(define (f) 1 2 (begin 3 (f))) (f)": 0,
		"(define (f n) (let ((m (+ n 1))) (let () (if #t (if #f 1 (f m)))))) (f 0)":                      1,
		"(define (e n) (if (= n 0) #t (o (- n 1)))) (define (o n) (if (= n 0) #f (e (- n 1)))) (e 1001)": 1,
		"(define (f g) (g g)) (f f)":                    0,
		"(+ 1 ((lambda (f) (f f)) (lambda (f) (f f))))": 1,
	} {
		m := started(t, text)
		for range 2000 {
			m.Run(1)
			if l := m.Look(); l.Depth > deepest || l.State == api.Failed {
				t.Errorf("P8: %q: %+v, want no deeper than %d", text, l, deepest)
				break
			}
		}
		if k, e := m.Run(api.MaxRun); e != api.OK || m.Look().Depth > deepest || (k == api.MaxRun) != (m.Look().State == api.Running) {
			t.Errorf("P8: %q: %d, %d, %+v", text, k, e, m.Look())
		}
	}
}

// P9: two machines of one code.
func TestMachinesApart(t *testing.T) {
	c, _, _ := Compile("(define n 0) (define (f) (define m n) (set! n (+ m 1)) (display n) (set! car cdr) (f)) (f)")
	a, b := c.Start(), c.Start()
	a.Run(10)
	if l := b.Look(); l != (api.Look{}) || len(b.Output()) != 0 {
		t.Errorf("P9: the other one: %+v, %q", l, b.Output())
	}
	b.Run(4)
	late := c.Start()
	late.Run(7)
	for m, want := range map[*Machine]string{a: "1 2 3", b: "1", late: "1 2"} {
		if got := strings.Join(m.Output(), " "); got != want {
			t.Errorf("P9: Output = %q, want %q", got, want)
		}
	}
}
