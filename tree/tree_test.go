package tree

import "testing"

func TestLabels(t *testing.T) {
	x, y := Term{Kind: Variable, Value: 0}, Term{Kind: Variable, Value: 1}
	terms := []Term{
		{Kind: Number, Value: 0}, {Kind: Number, Value: 1}, {Kind: Number, Value: -1},
		{Kind: Name, Text: "a"}, {Kind: Name, Text: "b"}, {Kind: Name, Text: "a", Args: []Term{x}}, {Kind: Name, Text: "a", Args: []Term{x, x}}, {Kind: Name, Text: "b", Args: []Term{x}},
	}
	for i, one := range terms {
		for j, other := range terms {
			if same := one.Label() == other.Label(); same != (i == j) {
				t.Errorf("%+v and %+v: %v", one, other, same)
			}
		}
	}
	one, other := Term{Kind: Name, Text: "a", Args: []Term{x}}, Term{Kind: Name, Text: "a", Args: []Term{y}}
	if one.Label() != other.Label() {
		t.Error("the arguments count, but they should not")
	}
}
