// Package code: the code of a register machine, and how expressions become it.
//
// The machine has these registers: the place in the code, the value that was
// come to last, the innermost frame, the values of the application that is to
// be made, and the top of its stack. On the stack lies what is pending, each
// with the frame where it stands, the place where it is taken up, and, of an
// application, the values so far. Below all lies an entry that does not count,
// with the place of the next form. So what is to be done with a value is always
// this: it goes to the top of the stack, and the machine goes on at the place
// that stands there. Whoever keeps the top keeps all that is to be done.
package code

import "lathe/value"

// Op is a kind of instruction. The numbers are places in a table of Ops.
type Op int

const (
	Form   Op = iota // the stack is empty, but for the place N of what comes behind this form
	Const            // the value is Consts[N]
	Load             // the value is that of the variable Names[N]
	Make             // the value is a new procedure of Lambdas[N]
	Pend             // one more is pending, to be taken up at N
	Join             // the value joins those of the application that is pending, to be taken up at N
	Next             // the sequence that is pending is to be taken up at N
	Drop             // the sequence that is pending is so no more
	Branch           // the if that is pending is so no more; on at N, if the value is #f
	Define           // the define that is pending is so no more; Names[N] has the value, in the innermost frame
	Set              // the set! that is pending is so no more; Names[N] has the value, where it stands
	Ready            // the value joins those of the application that is pending, which is so no more: it is to be made
	Apply            // the application is made
	Return           // on where the top of the stack says
	Halt             // the program is done
	Ops              // how many kinds there are
)

// Instr is one instruction.
type Instr struct {
	Op Op
	N  int
}

// Lambda is what procedures of one lambda share.
type Lambda struct {
	Name  string // the variable that is defined as it, if one is
	Names []int  // its variables, as places in a Program's Names
	Entry int    // where its body is
}

// Program is a program as code. It begins at the first instruction. Nothing
// changes it once it is made, so any number of machines may run it.
type Program struct {
	Instrs  []Instr
	Consts  []value.Value
	Names   []string // of variables, no two the same
	Lambdas []Lambda
}
