package read

import (
	"reflect"
	"strings"
	"testing"

	"lathe/api"
	"lathe/value"
)

// list is short for the list of these.
func list(items ...value.Value) value.Value { return value.List(items...) }

func TestData(t *testing.T) {
	a, b := value.Symbol("a"), value.Symbol("b")
	quote := value.Symbol("quote")
	one, two := value.Int(1), value.Int(2)
	for text, want := range map[string][]value.Value{
		"":                      nil,
		"; a":                   nil,
		"1 a #t #f":             {one, a, value.Bool(true), value.Bool(false)},
		"-12 -0 007":            {value.Int(-12), value.Int(0), value.Int(7)},
		"-999999999999999999":   {value.Int(-999999999999999999)},
		"()(a)(a(1 b)2)":        {list(), list(a), list(a, list(one, b), two)},
		"'a":                    {list(quote, a)},
		"''a b":                 {list(quote, list(quote, a)), b},
		"'()":                   {list(quote, list())},
		"(a '(1 '2) ; )\n'b a)": {list(a, list(quote, list(one, list(quote, two))), list(quote, b), a)},
		"' \n a":                {list(quote, a)},
		"(quote a)":             {list(quote, a)},
	} {
		got, e, at := Data(text)
		if e != api.OK || at != 0 || !reflect.DeepEqual(got, want) {
			t.Errorf("Data(%q) = %v, %d, %d", text, got, e, at)
		}
	}
}

func TestDataWrong(t *testing.T) {
	for _, c := range []struct {
		text string
		e    api.Errno
		at   int
	}{
		{strings.Repeat(")", api.MaxText+1), api.ErrSize, api.MaxText},
		{"a )", api.ErrSyntax, 2},
		{"(a", api.ErrSyntax, 2},
		{"('a '", api.ErrSyntax, 5},
		{"('a ')", api.ErrSyntax, 5},
		{"a .", api.ErrSyntax, 2},
		{strings.Repeat("('", 10) + "'", api.ErrNest, 20},
	} {
		got, e, at := Data(c.text)
		if got != nil || e != c.e || at != c.at {
			t.Errorf("Data(%q) = %v, %d, %d, want %d, %d", c.text, got, e, at, c.e, c.at)
		}
	}
}
