package value

import (
	"slices"
	"testing"
)

func TestListAndItems(t *testing.T) {
	for _, items := range [][]Value{nil, {Int(1)}, {Symbol("a"), Bool(true), Empty{}}, {List(Int(1)), Nothing{}}} {
		got, ok := Items(List(items...))
		if !ok || !slices.Equal(got, items) {
			t.Errorf("Items of the list of %v = %v, %v", items, got, ok)
		}
	}
}

func TestNoList(t *testing.T) {
	for _, v := range []Value{Int(1), Bool(false), Symbol("a"), Nothing{}, &Pair{Int(1), Int(2)}, &Procedure{}} {
		if items, ok := Items(v); ok || items != nil {
			t.Errorf("Items(%v) = %v, %v", v, items, ok)
		}
	}
}

func TestSame(t *testing.T) {
	var a, b Value = List(Int(1)), List(Int(1))
	if a == b {
		t.Error("two pairs are the same")
	}
	if b = a; a != b {
		t.Error("a pair is not the same as itself")
	}
	var p, q Value = &Procedure{Name: "p"}, &Procedure{Name: "p"}
	if p == q || p != Value(p) {
		t.Error("procedures are not the same by place")
	}
	if Value(Int(1)) != Value(Int(1)) || Value(Int(1)) == Value(Bool(true)) || Value(Empty{}) == Value(Nothing{}) {
		t.Error("values are not the same by what they are")
	}
}
