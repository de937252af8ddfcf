// Package machine: the register machine that runs code. The remark of package
// code says what it is like.
package machine

import (
	"errors"
	"slices"

	"lathe/api"
	"lathe/code"
	"lathe/value"
)

// Machine runs a program.
type Machine struct {
	program *code.Program
	registers
	output []string
	end    api.Look // how it stands, once it is not running any more
}

// registers are what a machine has only while it is running.
type registers struct {
	at      int           // the place of the next instruction
	value   value.Value   // what was come to last; nil, ahead of the first one
	frame   *frame        // the innermost one
	applied value.Value   // of the application that is to be made: what is applied,
	values  []value.Value // and to what
	top     *entry        // of the stack
}

// New gives a machine with nothing done yet.
func New(program *code.Program) *Machine {
	m := &Machine{program: program}
	m.frame = m.outermost()
	m.top = &entry{frame: m.frame}
	return m
}

// Run goes on, so that at most n applications are made, and tells how many were.
func (m *Machine) Run(n int) (int, api.Errno) {
	if n < 0 || n > api.MaxRun {
		return 0, api.ErrArg
	}
	made, err := m.goOn(n)
	var w wrong
	if errors.As(err, &w) {
		m.stop(api.Look{State: api.Failed, Error: w.errno, Depth: m.top.depth})
	}
	return made, api.OK
}

// Look tells how the machine stands.
func (m *Machine) Look() api.Look {
	if m.running() {
		return api.Look{State: api.Running, Depth: m.top.depth}
	}
	return m.end
}

// Output tells what has joined the output.
func (m *Machine) Output() []string {
	return slices.Clone(m.output)
}

func (m *Machine) running() bool {
	return m.end.State == api.Running
}

// goOn does instructions till the program is done, or fails, or n applications
// were made and one more is to be. Every way from one application to the next
// leads forward through the code, so it ends.
func (m *Machine) goOn(n int) (int, error) {
	kinds := kinds()
	made := 0
	for m.running() {
		in := m.program.Instrs[m.at]
		if in.Op == code.Apply {
			if made == n {
				break
			}
			made++
		}
		m.at++
		if err := kinds[in.Op](m, in.N); err != nil {
			return made, inside{m.frame.procedure, err}
		}
	}
	return made, nil
}

// stop lets go of all that was needed to go on.
func (m *Machine) stop(end api.Look) {
	m.end = end
	m.registers = registers{}
}

// resume goes on with the value as the top of the stack says.
func (m *Machine) resume() {
	m.at, m.frame = m.top.to, m.top.frame
}
