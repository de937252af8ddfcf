// Package value: the values of programs. Data of a text are values too.
package value

// Value is one of the kinds below. All of them can be held against each other
// by ==, and it says what eq? asks: pairs and procedures are the same by place,
// all others by what they are.
type Value interface {
	isValue()
}

// Int is an int; 64 bits on every machine.
type Int int64

// Bool is #t or #f.
type Bool bool

// Symbol is a symbol, by its name.
type Symbol string

// Empty is the empty list.
type Empty struct{}

// Nothing is the value nothing.
type Nothing struct{}

// Pair is a pair; a value is a pointer to one.
type Pair struct {
	First, Rest Value
}

// Procedure is a procedure; a value is a pointer to one.
type Procedure struct {
	Name  string
	Count int // of the values that it is applied to

	// Do applies it. It is never given more values than Count, nor fewer, and
	// may keep the slice of them.
	Do func(values []Value) error
}

func (Int) isValue()        {}
func (Bool) isValue()       {}
func (Symbol) isValue()     {}
func (Empty) isValue()      {}
func (Nothing) isValue()    {}
func (*Pair) isValue()      {}
func (*Procedure) isValue() {}

// List gives the list of these values.
func List(items ...Value) Value {
	var list Value = Empty{}
	for i := len(items) - 1; i >= 0; i-- {
		list = &Pair{items[i], list}
	}
	return list
}

// Items gives what is in a list, in order, and whether v is a list at all.
func Items(v Value) ([]Value, bool) {
	var items []Value
	for {
		pair, ok := v.(*Pair)
		if !ok {
			break
		}
		items = append(items, pair.First)
		v = pair.Rest
	}
	if v != (Empty{}) {
		return nil, false
	}
	return items, true
}
