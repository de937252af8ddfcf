package machine

import (
	"slices"

	"lathe/api"
	"lathe/code"
	"lathe/value"
)

// kinds gives what does each kind of instruction, at the number of its kind.
func kinds() [code.Ops]func(*Machine, int) error {
	return [code.Ops]func(*Machine, int) error{
		code.Form:   (*Machine).form,
		code.Const:  (*Machine).constant,
		code.Load:   (*Machine).load,
		code.Make:   (*Machine).lambda,
		code.Pend:   (*Machine).pend,
		code.Join:   (*Machine).join,
		code.Next:   (*Machine).next,
		code.Drop:   (*Machine).drop,
		code.Branch: (*Machine).branch,
		code.Define: (*Machine).define,
		code.Set:    (*Machine).set,
		code.Ready:  (*Machine).ready,
		code.Apply:  (*Machine).apply,
		code.Return: (*Machine).back,
		code.Halt:   (*Machine).halt,
	}
}

// form is come to in the outermost frame: the machine starts there, and the
// form ahead of this one has left it so.
func (m *Machine) form(n int) error {
	m.top = &entry{frame: m.frame, to: n}
	return nil
}

func (m *Machine) constant(n int) error {
	m.value = m.program.Consts[n]
	return nil
}

func (m *Machine) load(n int) error {
	place := m.frame.find(n)
	if place == nil {
		return wrong{api.ErrUnbound}
	}
	m.value = *place
	return nil
}

// lambda makes a procedure: a closure over the frames where the lambda stands.
func (m *Machine) lambda(n int) error {
	lambda, outer := m.program.Lambdas[n], m.frame
	name := lambda.Name
	if name == "" {
		name = "a lambda"
	}
	enter := func(values []value.Value) error {
		m.frame = &frame{name, slices.Clip(lambda.Names), values, outer}
		m.at = lambda.Entry
		return nil
	}
	m.value = &value.Procedure{Name: name, Count: len(lambda.Names), Do: enter}
	return nil
}

func (m *Machine) pend(n int) error {
	if m.top.depth == api.MaxDepth {
		return wrong{api.ErrDeep}
	}
	m.top = &entry{below: m.top, depth: m.top.depth + 1, frame: m.frame, to: n}
	return nil
}

func (m *Machine) join(n int) error {
	m.top = m.top.with(m.value).until(n)
	return nil
}

func (m *Machine) next(n int) error {
	m.top = m.top.until(n)
	return nil
}

func (m *Machine) drop(int) error {
	m.top = m.top.below
	return nil
}

func (m *Machine) branch(n int) error {
	m.top = m.top.below
	if m.value == value.Bool(false) {
		m.at = n
	}
	return nil
}

func (m *Machine) define(n int) error {
	m.top = m.top.below
	m.frame.define(n, m.value)
	m.value = value.Nothing{}
	return nil
}

func (m *Machine) set(n int) error {
	m.top = m.top.below
	place := m.frame.find(n)
	if place == nil {
		return wrong{api.ErrUnbound}
	}
	*place = m.value
	m.value = value.Nothing{}
	return nil
}

func (m *Machine) ready(int) error {
	all := m.top.with(m.value).values()
	m.applied, m.values = all[0], all[1:]
	m.top = m.top.below
	return nil
}

func (m *Machine) apply(int) error {
	p, ok := m.applied.(*value.Procedure)
	if !ok {
		return wrong{api.ErrApply}
	}
	if len(m.values) != p.Count {
		return inside{p.Name, wrong{api.ErrArgs}}
	}
	if err := p.Do(m.values); err != nil {
		return inside{p.Name, err}
	}
	return nil
}

func (m *Machine) back(int) error {
	m.resume()
	return nil
}

func (m *Machine) halt(int) error {
	m.stop(api.Look{State: api.Done, Value: value.Told(m.value)})
	return nil
}
