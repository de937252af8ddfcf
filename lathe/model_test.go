package lathe

import (
	"slices"
	"strings"
	"testing"

	"lathe/api"
	"lathe/read"
	"lathe/value"
)

// model evaluates data straight away, as the document words it, to be held
// against machines: what is to be done with a value is a Go function here.
type model struct {
	limit   int // how many applications may be made
	depths  []int
	joined  []int // how many had joined the output at each application
	output  []string
	again   int // how often what was to be done with a call/cc's value was done once more
	end     api.Look
	applied map[*value.Procedure]func(values []value.Value, depth int, then func(value.Value))
}

type modelFrame struct {
	values map[value.Symbol]value.Value
	outer  *modelFrame
}

// modelEnd is thrown when a model ends.
type modelEnd struct{}

func (m *model) stop(end api.Look) {
	m.end = end
	panic(modelEnd{})
}

func (m *model) fail(e api.Errno, depth int) {
	m.stop(api.Look{State: api.Failed, Error: e, Depth: depth})
}

func (m *model) pend(depth int) int {
	if depth == api.MaxDepth {
		m.fail(api.ErrDeep, depth)
	}
	return depth + 1
}

func (f *modelFrame) having(x value.Symbol) *modelFrame {
	for f != nil {
		if _, ok := f.values[x]; ok {
			break
		}
		f = f.outer
	}
	return f
}

func (m *model) evaluate(d value.Value, f *modelFrame, depth int, then func(value.Value)) {
	switch d := d.(type) {
	case value.Symbol:
		has := f.having(d)
		if has == nil {
			m.fail(api.ErrUnbound, depth)
		}
		then(has.values[d])
	case *value.Pair:
		all, _ := value.Items(d)
		m.list(all, f, depth, then)
	default:
		then(d)
	}
}

func (m *model) list(all []value.Value, f *modelFrame, depth int, then func(value.Value)) {
	keyword, _ := all[0].(value.Symbol)
	switch keyword {
	case "quote":
		then(all[1])
	case "if":
		m.evaluate(all[1], f, m.pend(depth), func(v value.Value) {
			switch {
			case v != value.Bool(false):
				m.evaluate(all[2], f, depth, then)
			case len(all) == 4:
				m.evaluate(all[3], f, depth, then)
			default:
				then(value.Nothing{})
			}
		})
	case "define", "set!":
		m.assign(keyword == "define", all, f, depth, then)
	case "lambda":
		names, _ := value.Items(all[1])
		then(m.lambda(names, all[2:], f))
	case "begin":
		m.sequence(all[1:], f, depth, then)
	case "let":
		bindings, _ := value.Items(all[1])
		var names, parts []value.Value
		for _, b := range bindings {
			both, _ := value.Items(b)
			names, parts = append(names, both[0]), append(parts, both[1])
		}
		parts = slices.Insert(parts, 0, value.List(slices.Concat([]value.Value{value.Symbol("lambda"), value.List(names...)}, all[2:])...))
		m.list(parts, f, depth, then)
	default:
		m.application(all, nil, f, m.pend(depth), depth, then)
	}
}

func (m *model) assign(define bool, all []value.Value, f *modelFrame, depth int, then func(value.Value)) {
	inner := m.pend(depth)
	target, a := all[1], all[2]
	if head, ok := value.Items(target); ok {
		target = head[0]
		a = value.List(slices.Concat([]value.Value{value.Symbol("lambda"), value.List(head[1:]...)}, all[2:])...)
	}
	x := target.(value.Symbol)
	m.evaluate(a, f, inner, func(v value.Value) {
		has := f
		if !define {
			has = f.having(x)
		}
		if has == nil {
			m.fail(api.ErrUnbound, depth)
		}
		has.values[x] = v
		then(value.Nothing{})
	})
}

func (m *model) lambda(names, body []value.Value, f *modelFrame) value.Value {
	p := &value.Procedure{Count: len(names)}
	m.applied[p] = func(values []value.Value, depth int, then func(value.Value)) {
		inner := &modelFrame{map[value.Symbol]value.Value{}, f}
		for i, x := range names {
			inner.values[x.(value.Symbol)] = values[i]
		}
		m.sequence(body, inner, depth, then)
	}
	return p
}

func (m *model) sequence(all []value.Value, f *modelFrame, depth int, then func(value.Value)) {
	if len(all) == 1 {
		m.evaluate(all[0], f, depth, then)
		return
	}
	m.evaluate(all[0], f, m.pend(depth), func(value.Value) { m.sequence(all[1:], f, depth, then) })
}

func (m *model) application(all, values []value.Value, f *modelFrame, inner, depth int, then func(value.Value)) {
	if len(values) == len(all) {
		m.apply(values[0], values[1:], depth, then)
		return
	}
	m.evaluate(all[len(values)], f, inner, func(v value.Value) {
		m.application(all, append(slices.Clip(values), v), f, inner, depth, then)
	})
}

func (m *model) apply(first value.Value, values []value.Value, depth int, then func(value.Value)) {
	if len(m.depths) == m.limit {
		m.stop(api.Look{Depth: depth})
	}
	m.depths, m.joined = append(m.depths, depth), append(m.joined, len(m.output))
	p, ok := first.(*value.Procedure)
	if !ok {
		m.fail(api.ErrApply, depth)
	}
	if len(values) != p.Count {
		m.fail(api.ErrArgs, depth)
	}
	if do, ok := m.applied[p]; ok {
		do(values, depth, then)
		return
	}
	v, e := m.first(p.Name, values)
	if e != api.OK {
		m.fail(e, depth)
	}
	then(v)
}

// callCC is what applying call/cc does.
func (m *model) callCC(values []value.Value, depth int, then func(value.Value)) {
	done := false
	do := func(v value.Value) {
		if done {
			m.again++
		}
		done = true
		then(v)
	}
	k := &value.Procedure{Count: 1}
	m.applied[k] = func(values []value.Value, _ int, _ func(value.Value)) { do(values[0]) }
	m.apply(values[0], []value.Value{k}, depth, do)
}

func (m *model) first(name string, values []value.Value) (value.Value, api.Errno) {
	last := values[len(values)-1]
	a, isInt := values[0].(value.Int)
	b, areInts := last.(value.Int)
	pair, isPair := values[0].(*value.Pair)
	switch {
	case strings.Contains("+-*<=", name) && (!isInt || !areInts), (name == "car" || name == "cdr") && !isPair:
		return nil, api.ErrType
	case name == "display" && len(m.output) == api.MaxOutput:
		return nil, api.ErrFull
	}
	switch name {
	case "+":
		return a + b, api.OK
	case "-":
		return a - b, api.OK
	case "*":
		return a * b, api.OK
	case "<":
		return value.Bool(a < b), api.OK
	case "=":
		return value.Bool(a == b), api.OK
	case "cons":
		return &value.Pair{First: values[0], Rest: last}, api.OK
	case "car":
		return pair.First, api.OK
	case "cdr":
		return pair.Rest, api.OK
	case "null?":
		return value.Bool(last == value.Empty{}), api.OK
	case "pair?":
		return value.Bool(isPair), api.OK
	case "not":
		return value.Bool(last == value.Bool(false)), api.OK
	case "eq?":
		return value.Bool(values[0] == last), api.OK
	}
	m.output = append(m.output, value.Told(last))
	return value.Nothing{}, api.OK
}

// modelOf runs a right text so far.
func modelOf(text string, limit int) (m *model) {
	m = &model{limit: limit, applied: map[*value.Procedure]func([]value.Value, int, func(value.Value)){}}
	outermost := &modelFrame{map[value.Symbol]value.Value{}, nil}
	for i, names := range []string{"car cdr null? pair? not display", "+ - * < = cons eq?"} {
		for name := range strings.FieldsSeq(names) {
			outermost.values[value.Symbol(name)] = &value.Procedure{Name: name, Count: i + 1}
		}
	}
	callCC := &value.Procedure{Count: 1}
	m.applied[callCC], outermost.values["call/cc"] = m.callCC, callCC
	data, _, _ := read.Data(text)
	defer func() {
		if r := recover(); r != nil && r != (modelEnd{}) {
			panic(r)
		}
	}()
	var forms func(data []value.Value, last value.Value)
	forms = func(data []value.Value, last value.Value) {
		if len(data) == 0 {
			m.stop(api.Look{State: api.Done, Value: value.Told(last)})
		}
		m.evaluate(data[0], outermost, 0, func(v value.Value) { forms(data[1:], v) })
	}
	forms(data, nil)
	return m
}

// far is so far as models are run: Go's own stack grows with it.
const far = 400

// likeModel runs a text by pieces of a length that step says, and sees that
// wherever the machine is held it stands as the model says (P5 to P7).
func likeModel(t *testing.T, text string, step func() int) *model {
	t.Helper()
	c, e, at := Compile(text)
	if e != api.OK {
		t.Fatalf("P3: Compile(%q) = %d, %d", text, e, at)
	}
	model, m := modelOf(text, far), c.Start()
	total := len(model.depths)
	for at := 0; ; {
		n := min(step(), far-at)
		look, output := model.end, model.output
		if at+n < total {
			look, output = api.Look{Depth: model.depths[at+n]}, output[:model.joined[at+n]]
		}
		want := min(n, total-at)
		made, e := m.Run(n)
		if made != want || e != api.OK || m.Look() != look || !slices.Equal(m.Output(), output) {
			t.Fatalf("P5, P6, P7: %q: behind %d, Run(%d) = %d, %d, %+v, %q, want %d, %+v, %q",
				text, at, n, made, e, m.Look(), m.Output(), want, look, output)
		}
		if at += made; look.State != api.Running || at == far {
			return model
		}
	}
}

func TestLikeModel(t *testing.T) {
	one, three := func() int { return 1 }, func() int { return 3 }
	for _, text := range slices.Concat(right, callCCs(), []string{
		down(5), down(api.MaxDepth), "(define (loop i) (if (< i 1000) (loop (+ i 1)) i)) (loop 0)",
		"(define (o n) (display n) (o (+ n 1))) (o 0)",
		"(define (fib n) (if (< n 2) n (+ (fib (- n 1)) (fib (- n 2))))) (fib 8)",
		"(define (map f l) (if (null? l) '() (cons (f (car l)) (map f (cdr l))))) (map (lambda (x) (* x x)) '(1 2 3 4))",
		"(define (m n) (lambda (d) (set! n (+ n d)) (display n) n)) (define p (m 1)) (define q (m 2)) (p 1) (q (p 2)) (+ (p 0) (q (q 0)))",
	}) {
		likeModel(t, text, one)
		likeModel(t, text, three)
	}
}

// maker makes right texts by chance.
type maker struct {
	mix
}

// any gives an expression of so many levels at most, within those variables.
func (k *maker) any(levels int, names []string) string {
	if levels == 0 || k.below(6) == 0 {
		return k.plain(names)
	}
	one := func() string { return k.any(levels-1, names) }
	switch k.below(20) {
	case 0:
		return "(if " + one() + " " + one() + ")"
	case 1, 2:
		return "(if (" + k.pick("=", "<", "eq?") + " " + one() + " " + one() + ") " + one() + " " + one() + ")"
	case 3:
		return "(" + k.pick("define", "set!", "set!") + " " + k.pick(names...) + " " + one() + ")"
	case 4:
		return "(begin " + one() + " " + one() + ")"
	case 5:
		return "(lambda (x) " + k.any(levels-1, append(slices.Clip(names), "x")) + ")"
	case 6:
		return "(let ((y " + one() + ")) " + one() + " " + k.any(levels-1, append(slices.Clip(names), "y")) + ")"
	case 7:
		return "(" + one() + " " + one() + ")"
	case 8:
		return "(" + one() + ")"
	case 9, 10, 11:
		return "(f " + one() + ")"
	case 12:
		return "(g " + one() + " " + one() + ")"
	case 13:
		return "(call/cc (lambda (c) " + k.pick("", "(set! k c) ") + k.any(levels-1, append(slices.Clip(names), "c")) + "))"
	case 14:
		return "(" + k.pick(names...) + " " + one() + ")"
	case 15:
		return "(k " + one() + ")"
	case 16:
		return "(call/cc " + one() + ")"
	case 17:
		return "(" + k.pick("car", "cdr", "null?", "pair?", "not", "display", "display") + " " + one() + ")"
	default:
		return "(" + k.pick("+", "-", "*", "cons", "cons", "=", "<") + " " + one() + " " + one() + ")"
	}
}

// plain gives an expression that has none in it.
func (k *maker) plain(names []string) string {
	if k.below(2) == 0 {
		return k.pick(names...)
	}
	return k.pick("0", "1", "2", "-1", "#f", "#t", "'a", "'(1 2)", "'()", "car", "f", "k", "call/cc", "z")
}

func (k *maker) pick(from ...string) string {
	return from[k.below(len(from))]
}

// program gives a text that Compile takes.
func (k *maker) program() string {
	for {
		text := "(define x 1) (define k car) (define (f x) " + k.any(5, []string{"x"}) + ") (define (g x y) " + k.any(4, []string{"x", "y"}) + ") " +
			k.forms()
		if len(text) <= api.MaxText {
			return text
		}
	}
}

// forms gives the last forms. Some of them are taken up again.
func (k *maker) forms() string {
	if k.below(3) > 0 {
		return k.any(2, []string{"x"}) + " " + k.any(5, []string{"x"})
	}
	around := k.pick("@", "(if @ (display 1) 2)", "(begin @ (display x))", "(display (cons x @))", "((lambda (c) (display c)) @)", "(define x @)", "(set! x @)")
	first := "(call/cc (lambda (c) (set! k c) " + k.any(2, []string{"c", "x"}) + "))"
	return strings.Replace(around, "@", first, 1) + " " + k.any(3, []string{"x"}) + " (k (display x))"
}

func TestAnyLikeModel(t *testing.T) {
	k := &maker{3}
	var ends [12]int
	again := 0
	for range 10000 {
		m := likeModel(t, k.program(), func() int { return k.below(7) })
		if m.end.State != api.Running {
			ends[m.end.Error]++
		}
		if m.again > 0 {
			again++
		}
	}
	if again < 500 {
		t.Errorf("only %d programs did something once more", again)
	}
	for _, e := range []api.Errno{api.OK, api.ErrUnbound, api.ErrApply, api.ErrArgs, api.ErrType, api.ErrDeep, api.ErrFull} {
		if ends[e] < 10 {
			t.Errorf("only %d programs ended with %d", ends[e], e)
		}
	}
}
