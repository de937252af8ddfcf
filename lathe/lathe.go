// Package lathe: a small Scheme that is compiled, and can be held and taken up anywhere: see DOC.md.
package lathe

import (
	"lathe/api"
	"lathe/code"
	"lathe/expr"
	"lathe/machine"
	"lathe/read"
)

// Code is a program that was compiled.
type Code struct {
	program *code.Program
}

// Machine runs a program.
type Machine struct {
	machine *machine.Machine
}

// Compile reads a program (P3).
func Compile(text string) (*Code, api.Errno, int) {
	data, e, at := read.Data(text)
	if e != api.OK {
		return nil, e, at
	}
	var forms []expr.Expr
	for i, datum := range data {
		form, ok := expr.Of(datum)
		if !ok {
			return nil, api.ErrForm, i
		}
		forms = append(forms, form)
	}
	return &Code{code.Build(forms)}, api.OK, 0
}

// Start gives a machine (P4).
func (c *Code) Start() *Machine { return &Machine{machine.New(c.program)} }

// Run goes on (P5).
func (m *Machine) Run(n int) (int, api.Errno) { return m.machine.Run(n) }

// Look tells how a machine stands (P6).
func (m *Machine) Look() api.Look { return m.machine.Look() }

// Output tells what has joined the output (P6).
func (m *Machine) Output() []string { return m.machine.Output() }
