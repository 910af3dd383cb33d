package show

import (
	"testing"

	"parley/tree"
)

func variable(which int) tree.Term { return tree.Term{Kind: tree.Variable, Value: which} }
func number(value int) tree.Term   { return tree.Term{Kind: tree.Number, Value: value} }

func name(text string, args ...tree.Term) tree.Term {
	return tree.Term{Kind: tree.Name, Text: text, Args: args}
}

func TestTerms(t *testing.T) {
	for _, c := range []struct {
		term tree.Term
		want string
	}{
		{variable(0), "V0"},
		{variable(11), "V11"},
		{number(0), "0"},
		{number(-7), "-7"},
		{name("a"), "a"},
		{name("f", variable(1), name("g", number(2)), name("b")), "f(V1,g(2),b)"},
	} {
		if got := Term(c.term); got != c.want {
			t.Errorf("%+v: %q, want %q", c.term, got, c.want)
		}
	}
}

func TestItems(t *testing.T) {
	items := []tree.Item{
		{Left: name("q", variable(0))},
		{Left: variable(0), Sign: "=", Right: name("a")},
		{Left: variable(0), Sign: ":=", Right: number(1)},
		{Left: variable(0), Sign: ":=", Right: number(1), Op: "-", Last: variable(2)},
	}
	if got, want := Items(items), "q(V0), V0=a, V0:=1, V0:=1-V2"; got != want {
		t.Errorf("%q, want %q", got, want)
	}
	if got := Items(nil); got != "" {
		t.Errorf("no items: %q", got)
	}
}

func TestPrograms(t *testing.T) {
	test := tree.Item{Left: variable(0), Sign: "<", Right: number(1)}
	goal := tree.Item{Left: name("q")}
	clauses := []tree.Clause{
		{Head: name("p")},
		{Head: name("p"), Goals: []tree.Item{goal, goal}},
		{Head: name("p"), Tests: []tree.Item{test, test}, Goals: []tree.Item{goal}},
	}
	if got, want := Program(clauses), "p.\np :- q, q.\np :- V0<1, V0<1 | q.\n"; got != want {
		t.Errorf("%q, want %q", got, want)
	}
	if got := Program(nil); got != "" {
		t.Errorf("no clauses: %q", got)
	}
}
