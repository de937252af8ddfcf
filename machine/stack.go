package machine

import "lathe/value"

// entry is one of what is pending, or the lowest of the stack, that does not
// count. None is ever changed: another one takes its place. So whoever keeps
// the top of a stack keeps the whole of it as it was.
type entry struct {
	below *entry
	depth int    // how many are pending, with this one
	frame *frame // where it stands
	to    int    // where it is taken up
	got   *item  // of an application, the values so far
}

// item is a value, with those that came ahead of it.
type item struct {
	value  value.Value
	before *item
	count  int // with this one
}

// until gives what e is, if it is taken up at another place.
func (e *entry) until(to int) *entry {
	other := *e
	other.to = to
	return &other
}

// with gives what e is, once it has one more value.
func (e *entry) with(v value.Value) *entry {
	count := 1
	if e.got != nil {
		count += e.got.count
	}
	other := *e
	other.got = &item{v, e.got, count}
	return &other
}

// values gives what e has got, in order, as a new slice.
func (e *entry) values() []value.Value {
	if e.got == nil {
		return nil
	}
	all := make([]value.Value, e.got.count)
	for i := e.got; i != nil; i = i.before {
		all[i.count-1] = i.value
	}
	return all
}
