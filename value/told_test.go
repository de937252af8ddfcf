package value

import (
	"math"
	"strings"
	"testing"

	"lathe/api"
)

func TestTold(t *testing.T) {
	a, p := Symbol("a"), &Procedure{Name: "car"}
	for _, c := range []struct {
		v    Value
		want string
	}{
		{Int(0), "0"}, {Int(7), "7"}, {Int(-5), "-5"},
		{Int(math.MaxInt64), "9223372036854775807"}, {Int(math.MinInt64), "-9223372036854775808"},
		{Bool(true), "#t"}, {Bool(false), "#f"}, {a, "a"}, {Symbol("set!"), "set!"},
		{Empty{}, "()"}, {Nothing{}, "#n"}, {p, "#p"},
		{List(Int(1)), "(1)"}, {List(Int(1), a, Bool(true)), "(1 a #t)"},
		{List(a, List(a), Empty{}), "(a (a) ())"}, {List(Empty{}), "(())"}, {List(List(List())), "((()))"},
		{&Pair{Int(1), Int(2)}, "(1 . 2)"}, {&Pair{Int(1), &Pair{Int(2), Int(3)}}, "(1 2 . 3)"},
		{&Pair{List(a), p}, "((a) . #p)"}, {&Pair{Empty{}, Nothing{}}, "(() . #n)"},
		{List(&Pair{a, Bool(false)}, p, Nothing{}), "((a . #f) #p #n)"},
	} {
		if got := Told(c.v); got != c.want {
			t.Errorf("Told(%v) = %q, want %q", c.v, got, c.want)
		}
	}
}

// What is told is cut behind its byte MaxTold, whatever stands there.
func TestToldIsCut(t *testing.T) {
	for n := range 8 {
		long := Symbol(strings.Repeat("x", api.MaxTold-n))
		for v, whole := range map[Value]string{
			long:                     string(long),
			List(long):               "(" + string(long) + ")",
			List(long, Int(-78)):     "(" + string(long) + " -78)",
			&Pair{long, Symbol("y")}: "(" + string(long) + " . y)",
			List(List(List(long))):   "(((" + string(long) + ")))",
			List(Empty{}, long):      "(() " + string(long) + ")",
		} {
			want := whole[:min(len(whole), api.MaxTold)]
			if got := Told(v); got != want {
				t.Errorf("Told of %q = %q", whole, got)
			}
		}
	}
}

// A value may be too great to be gone through, and still be told.
func TestToldOfGreatValues(t *testing.T) {
	var deep, wide, both Value = Empty{}, Empty{}, Int(1)
	for range 1000000 {
		deep, wide, both = &Pair{deep, Empty{}}, &Pair{Int(1), wide}, &Pair{both, both}
	}
	if got := Told(deep); got != strings.Repeat("(", api.MaxTold) {
		t.Errorf("deep: %q", got)
	}
	if got := Told(wide); got != "("+strings.Repeat("1 ", api.MaxTold/2)[:api.MaxTold-1] {
		t.Errorf("wide: %q", got)
	}
	if got := Told(both); got != strings.Repeat("(", api.MaxTold) {
		t.Errorf("both: %q", got)
	}
	for _, v := range []Value{deep, wide, both} {
		var all teller
		if all.tell(v); len(all.text) > 3*api.MaxTold {
			t.Errorf("%d bytes were told", len(all.text))
		}
	}
}
