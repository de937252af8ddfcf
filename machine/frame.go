package machine

import (
	"slices"

	"lathe/value"
)

// frame is a frame. Its variables are numbers of names, as the code has them.
// How many frames are around one another hangs on the text, not on how long the
// program runs.
type frame struct {
	procedure string // whose body stands in it
	names     []int
	values    []value.Value // one for each name
	outer     *frame
}

// find gives the place of a variable where it stands; nil, if no frame has it.
func (f *frame) find(name int) *value.Value {
	for ; f != nil; f = f.outer {
		if i := slices.Index(f.names, name); i >= 0 {
			return &f.values[i]
		}
	}
	return nil
}

// define gives a variable a value in this frame.
func (f *frame) define(name int, v value.Value) {
	if i := slices.Index(f.names, name); i >= 0 {
		f.values[i] = v
		return
	}
	f.names = append(f.names, name)
	f.values = append(f.values, v)
}
