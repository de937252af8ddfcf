package read

import (
	"strconv"
	"strings"

	"lathe/api"
	"lathe/value"
)

// reader holds what was read of a text so far.
type reader struct {
	forms []value.Value
	open  []opened
}

// opened is a ( or a ' whose end is not come to.
type opened struct {
	quote bool
	items []value.Value
}

// Data reads the forms of a program. With an error it gives its place, and no
// forms.
func Data(text string) ([]value.Value, api.Errno, int) {
	if len(text) > api.MaxText {
		return nil, api.ErrSize, api.MaxText
	}
	var r reader
	for piece := range Pieces(text) {
		if e := r.take(piece); e != api.OK {
			return nil, e, piece.At
		}
	}
	if len(r.open) > 0 {
		return nil, api.ErrSyntax, len(text)
	}
	return r.forms, api.OK, 0
}

// take goes on by one piece. An error is one at the place of that piece.
func (r *reader) take(piece Piece) api.Errno {
	switch piece.Kind {
	case Open, Quote:
		return r.begin(piece.Kind == Quote)
	case Close:
		return r.close()
	case Wrong:
		return api.ErrSyntax
	}
	r.add(tokenValue(piece))
	return api.OK
}

func (r *reader) begin(quote bool) api.Errno {
	if len(r.open) >= api.MaxNest {
		return api.ErrNest
	}
	r.open = append(r.open, opened{quote: quote})
	return api.OK
}

func (r *reader) close() api.Errno {
	if len(r.open) == 0 || r.innermost().quote {
		return api.ErrSyntax
	}
	list := value.List(r.innermost().items...)
	r.leave()
	r.add(list)
	return api.OK
}

// add puts a whole datum where it stands. Each ' right ahead of it ends with
// it.
func (r *reader) add(datum value.Value) {
	for len(r.open) > 0 && r.innermost().quote {
		datum = value.List(value.Symbol("quote"), datum)
		r.leave()
	}
	if len(r.open) == 0 {
		r.forms = append(r.forms, datum)
		return
	}
	list := r.innermost()
	list.items = append(list.items, datum)
}

func (r *reader) innermost() *opened {
	return &r.open[len(r.open)-1]
}

func (r *reader) leave() {
	r.open = r.open[:len(r.open)-1]
}

func tokenValue(piece Piece) value.Value {
	switch piece.Kind {
	case Bool:
		return value.Bool(piece.Text == "#t")
	case Int:
		// No int of MaxDigits digits is too great for 64 bits.
		n, _ := strconv.ParseInt(piece.Text, 10, 64)
		return value.Int(n)
	}
	// A copy, so that a symbol does not keep the whole text.
	return value.Symbol(strings.Clone(piece.Text))
}
