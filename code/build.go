package code

import (
	"lathe/expr"
	"lathe/value"
)

// builder holds a program while it is made.
type builder struct {
	program Program
	numbers map[string]int // places in the program's Names
	bodies  []expr.Expr    // of the program's Lambdas
}

// Build gives the code of a program.
func Build(forms []expr.Expr) *Program {
	b := &builder{numbers: map[string]int{}}
	for _, form := range forms {
		b.form(form)
	}
	b.emit(Halt, 0)
	b.lambdas()
	return &b.program
}

func (b *builder) form(form expr.Expr) {
	at := b.emit(Form, 0)
	b.put(form, true)
	b.pointHere(at)
}

// lambdas puts all bodies behind the forms. A body may have lambdas of its own:
// they join the end while this goes on.
func (b *builder) lambdas() {
	for i := 0; i < len(b.bodies); i++ {
		b.program.Lambdas[i].Entry = b.here()
		b.put(b.bodies[i], true)
	}
}

// put adds the code that comes to the value of e. If it is last, all ways
// through that code go on where the top of the stack says. Else what comes
// behind it must be that very place: then some ways just run on to there.
func (b *builder) put(e expr.Expr, last bool) {
	switch e := e.(type) {
	case expr.Const:
		b.emit(Const, b.constant(e.Value))
		b.end(last)
	case expr.Var:
		b.emit(Load, b.name(e.Name))
		b.end(last)
	case expr.Lambda:
		b.emit(Make, b.lambda(e))
		b.end(last)
	case expr.Define:
		b.within(Pend, e.Value)
		b.emit(Define, b.name(e.Name))
		b.end(last)
	case expr.Set:
		b.within(Pend, e.Value)
		b.emit(Set, b.name(e.Name))
		b.end(last)
	case expr.If:
		b.choice(e)
	case expr.Seq:
		b.sequence(e, last)
	case expr.Apply:
		b.application(e)
	}
}

func (b *builder) end(last bool) {
	if last {
		b.emit(Return, 0)
	}
}

// choice has both parts as last ones, so that neither has to jump over the
// other.
func (b *builder) choice(e expr.If) {
	b.within(Pend, e.Test)
	branch := b.emit(Branch, 0)
	b.put(e.Then, true)
	b.pointHere(branch)
	b.put(e.Else, true)
}

func (b *builder) sequence(e expr.Seq, last bool) {
	final := len(e.Parts) - 1
	op := Pend
	for _, part := range e.Parts[:final] {
		b.within(op, part)
		op = Next
	}
	b.emit(Drop, 0)
	b.put(e.Parts[final], last)
}

func (b *builder) application(e expr.Apply) {
	op := Pend
	for _, part := range e.Parts {
		b.within(op, part)
		op = Join
	}
	b.emit(Ready, 0)
	b.emit(Apply, 0)
}

// within puts e behind an instruction that says where to take up what is
// pending: behind e.
func (b *builder) within(op Op, e expr.Expr) {
	at := b.emit(op, 0)
	b.put(e, false)
	b.pointHere(at)
}

// emit adds an instruction and gives its place.
func (b *builder) emit(op Op, n int) int {
	b.program.Instrs = append(b.program.Instrs, Instr{op, n})
	return b.here() - 1
}

// here is the place of the next instruction.
func (b *builder) here() int {
	return len(b.program.Instrs)
}

func (b *builder) pointHere(at int) {
	b.program.Instrs[at].N = b.here()
}

// constant never takes a place twice: two data of a text are not the same, even
// if they look so.
func (b *builder) constant(v value.Value) int {
	b.program.Consts = append(b.program.Consts, v)
	return len(b.program.Consts) - 1
}

func (b *builder) name(name string) int {
	number, ok := b.numbers[name]
	if !ok {
		number = len(b.program.Names)
		b.numbers[name] = number
		b.program.Names = append(b.program.Names, name)
	}
	return number
}

func (b *builder) lambda(e expr.Lambda) int {
	var names []int
	for _, name := range e.Names {
		names = append(names, b.name(name))
	}
	b.program.Lambdas = append(b.program.Lambdas, Lambda{Name: e.Name, Names: names})
	b.bodies = append(b.bodies, e.Body)
	return len(b.bodies) - 1
}
