package value

import (
	"strconv"

	"lathe/api"
)

// Told tells a value, by the first MaxTold bytes.
func Told(v Value) string {
	var t teller
	t.tell(v)
	return string(t.text[:min(len(t.text), api.MaxTold)])
}

// teller tells values so far as there is room. Values may be far greater than
// that (a pair of a value with itself is twice as great), so each part of one
// is gone into only if it is not full.
type teller struct {
	text []byte
}

func (t *teller) full() bool {
	return len(t.text) >= api.MaxTold
}

func (t *teller) add(s string) {
	t.text = append(t.text, s...)
}

func (t *teller) tell(v Value) {
	if t.full() {
		return
	}
	switch v := v.(type) {
	case Int:
		t.text = strconv.AppendInt(t.text, int64(v), 10)
	case Bool:
		t.bool(v)
	case Symbol:
		t.add(string(v))
	case Empty:
		t.add("()")
	case Nothing:
		t.add("#n")
	case *Pair:
		t.pair(v)
	case *Procedure:
		t.add("#p")
	}
}

func (t *teller) bool(b Bool) {
	if b {
		t.add("#t")
	} else {
		t.add("#f")
	}
}

func (t *teller) pair(p *Pair) {
	t.add("(")
	t.tell(p.First)
	for !t.full() {
		rest, ok := p.Rest.(*Pair)
		if !ok {
			break
		}
		p = rest
		t.add(" ")
		t.tell(p.First)
	}
	if !t.full() && p.Rest != (Empty{}) {
		t.add(" . ")
		t.tell(p.Rest)
	}
	t.add(")")
}
