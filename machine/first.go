package machine

import (
	"slices"

	"lathe/api"
	"lathe/value"
)

// firsts gives the procedures that there are at first: method values of this
// machine, each made one that is applied to values.
func (m *Machine) firsts() []*value.Procedure {
	return []*value.Procedure{
		{Name: "+", Count: 2, Do: m.ofInts(m.plus)},
		{Name: "-", Count: 2, Do: m.ofInts(m.minus)},
		{Name: "*", Count: 2, Do: m.ofInts(m.times)},
		{Name: "<", Count: 2, Do: m.ofInts(m.less)},
		{Name: "=", Count: 2, Do: m.ofInts(m.equal)},
		{Name: "cons", Count: 2, Do: m.ofTwo(m.cons)},
		{Name: "car", Count: 1, Do: m.ofPair(m.car)},
		{Name: "cdr", Count: 1, Do: m.ofPair(m.cdr)},
		{Name: "null?", Count: 1, Do: m.ofOne(m.isEmpty)},
		{Name: "pair?", Count: 1, Do: m.ofOne(m.isPair)},
		{Name: "not", Count: 1, Do: m.ofOne(m.not)},
		{Name: "eq?", Count: 2, Do: m.ofTwo(m.same)},
		{Name: "display", Count: 1, Do: m.display},
		{Name: "call/cc", Count: 1, Do: m.callCC},
	}
}

// outermost gives the frame of the forms. A procedure that the text does not
// name can't be asked for, and isn't in it.
func (m *Machine) outermost() *frame {
	f := &frame{procedure: "the program"}
	for _, p := range m.firsts() {
		if name := slices.Index(m.program.Names, p.Name); name >= 0 {
			f.define(name, p)
		}
	}
	return f
}

// give makes v the value of the application that is made.
func (m *Machine) give(v value.Value) {
	m.value = v
	m.resume()
}

func (m *Machine) ofInts(f func(a, b value.Int) value.Value) func([]value.Value) error {
	return func(values []value.Value) error {
		a, isInt := values[0].(value.Int)
		b, areInts := values[1].(value.Int)
		if !isInt || !areInts {
			return wrong{api.ErrType}
		}
		m.give(f(a, b))
		return nil
	}
}

func (m *Machine) ofPair(f func(*value.Pair) value.Value) func([]value.Value) error {
	return func(values []value.Value) error {
		pair, ok := values[0].(*value.Pair)
		if !ok {
			return wrong{api.ErrType}
		}
		m.give(f(pair))
		return nil
	}
}

func (m *Machine) ofOne(f func(v value.Value) value.Value) func([]value.Value) error {
	return func(values []value.Value) error {
		m.give(f(values[0]))
		return nil
	}
}

func (m *Machine) ofTwo(f func(a, b value.Value) value.Value) func([]value.Value) error {
	return func(values []value.Value) error {
		m.give(f(values[0], values[1]))
		return nil
	}
}

func (*Machine) plus(a, b value.Int) value.Value  { return a + b }
func (*Machine) minus(a, b value.Int) value.Value { return a - b }
func (*Machine) times(a, b value.Int) value.Value { return a * b }
func (*Machine) less(a, b value.Int) value.Value  { return value.Bool(a < b) }
func (*Machine) equal(a, b value.Int) value.Value { return value.Bool(a == b) }

func (*Machine) cons(a, b value.Value) value.Value { return &value.Pair{First: a, Rest: b} }
func (*Machine) car(p *value.Pair) value.Value     { return p.First }
func (*Machine) cdr(p *value.Pair) value.Value     { return p.Rest }

func (*Machine) isEmpty(v value.Value) value.Value { return value.Bool(v == value.Empty{}) }
func (*Machine) not(v value.Value) value.Value     { return value.Bool(v == value.Bool(false)) }
func (*Machine) same(a, b value.Value) value.Value { return value.Bool(a == b) }

func (*Machine) isPair(v value.Value) value.Value {
	_, ok := v.(*value.Pair)
	return value.Bool(ok)
}

func (m *Machine) display(values []value.Value) error {
	if len(m.output) == api.MaxOutput {
		return wrong{api.ErrFull}
	}
	m.output = append(m.output, value.Told(values[0]))
	m.give(value.Nothing{})
	return nil
}

// callCC goes back to the instruction that has applied it, for p to be applied
// there: that is an application of its own, and the machine may be held ahead
// of it.
func (m *Machine) callCC(values []value.Value) error {
	m.applied, m.values = values[0], []value.Value{m.toBeDone()}
	m.at--
	return nil
}

// toBeDone gives a new procedure, of what is to be done with a value by now: the
// stack as it is. Nothing changes the entries of a stack, so it can be taken up
// as often as it is applied.
func (m *Machine) toBeDone() *value.Procedure {
	top := m.top
	takeUp := func(values []value.Value) error {
		m.top = top
		m.give(values[0])
		return nil
	}
	return &value.Procedure{Name: "what call/cc gave", Count: 1, Do: takeUp}
}
