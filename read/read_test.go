package read

import (
	"reflect"
	"strings"
	"testing"

	"parley/api"
	"parley/tree"
)

func variable(which int) tree.Term { return tree.Term{Kind: tree.Variable, Value: which} }
func number(value int) tree.Term   { return tree.Term{Kind: tree.Number, Value: value} }

func name(text string, args ...tree.Term) tree.Term {
	return tree.Term{Kind: tree.Name, Text: text, Args: args}
}

func TestTreesOfPrograms(t *testing.T) {
	for _, c := range []struct {
		text string
		want []tree.Clause
	}{
		{"", nil},
		{"p.", []tree.Clause{{Head: name("p")}}},
		{"p(X,f(Y,X),007).q(Y).", []tree.Clause{
			{Head: name("p", variable(0), name("f", variable(1), variable(0)), number(7))},
			{Head: name("q", variable(0))},
		}},
		{"p:-int(X).", []tree.Clause{{Head: name("p"), Goals: []tree.Item{{Left: name("int", variable(0))}}}}},
		{"p:-int(X)|int(X),int.", []tree.Clause{{
			Head:  name("p"),
			Tests: []tree.Item{{Left: name("int", variable(0))}},
			Goals: []tree.Item{{Left: name("int", variable(0))}, {Left: name("int")}},
		}}},
		{"p(B):-A<B,1\\=f|C:=A,C:=2*A,C=B.", []tree.Clause{{
			Head: name("p", variable(0)),
			Tests: []tree.Item{
				{Left: variable(1), Sign: "<", Right: variable(0)},
				{Left: number(1), Sign: "\\=", Right: name("f")},
			},
			Goals: []tree.Item{
				{Left: variable(2), Sign: ":=", Right: variable(1)},
				{Left: variable(2), Sign: ":=", Right: number(2), Op: "*", Last: variable(1)},
				{Left: variable(2), Sign: "=", Right: variable(0)},
			},
		}}},
	} {
		got := Program(c.text)
		if got.Errno != api.OK || got.At != 0 || !reflect.DeepEqual(got.Clauses, c.want) {
			t.Errorf("%q: %+v, want %+v", c.text, got, c.want)
		}
	}
}

func TestFaultsComeWithoutClauses(t *testing.T) {
	for _, c := range []struct {
		text  string
		errno api.Errno
		at    int
	}{
		{"p.q:-r.s", api.ErrSyntax, 8},
		{"p.q(a,b,c,d).", api.ErrBig, 9},
		{strings.Repeat("p.", 121), api.ErrLong, 0},
	} {
		got := Program(c.text)
		if got.Errno != c.errno || got.At != c.at || got.Clauses != nil {
			t.Errorf("%q: %+v, want %d, %d and no clauses", c.text, got, c.errno, c.at)
		}
	}
}

func TestTreesOfTerms(t *testing.T) {
	for _, c := range []struct {
		text  string
		want  tree.Term
		names []string
	}{
		{"a", name("a"), nil},
		{" 042 ", number(42), nil},
		{"Xy", variable(0), []string{"Xy"}},
		{"f(Y,g(X,1,Y))\n", name("f", variable(0), name("g", variable(1), number(1), variable(0))), []string{"Y", "X"}},
	} {
		got := Term(c.text)
		if got.Errno != api.OK || !reflect.DeepEqual(got.Term, c.want) || !reflect.DeepEqual(got.Names, c.names) {
			t.Errorf("%q: %+v, want %+v, %q", c.text, got, c.want, c.names)
		}
	}
}

func TestFaultsComeWithoutATerm(t *testing.T) {
	for _, c := range []struct {
		text  string
		errno api.Errno
	}{
		{"", api.ErrSyntax}, {"f(X) Y", api.ErrSyntax}, {"f(X).", api.ErrSyntax}, {"f(X", api.ErrSyntax}, {"f(X,1234567)", api.ErrBig}, {"f(X)" + strings.Repeat(" ", 61), api.ErrLong},
	} {
		if got, want := Term(c.text), (TermAnswer{Errno: c.errno}); !reflect.DeepEqual(got, want) {
			t.Errorf("%q: %+v, want %+v", c.text, got, want)
		}
	}
}

func TestTreesOfQueries(t *testing.T) {
	for _, c := range []struct {
		text string
		want []tree.Item
	}{
		{"p", []tree.Item{{Left: name("p")}}},
		{"int(X) , true", []tree.Item{{Left: name("int", variable(0))}, {Left: name("true")}}},
		{"Y=f(X,Y),X:=07,Z:=X-Y,p(Z)\n", []tree.Item{
			{Left: variable(0), Sign: "=", Right: name("f", variable(1), variable(0))},
			{Left: variable(1), Sign: ":=", Right: number(7)},
			{Left: variable(2), Sign: ":=", Right: variable(1), Op: "-", Last: variable(0)},
			{Left: name("p", variable(2))},
		}},
	} {
		got := Query(c.text)
		if got.Errno != api.OK || !reflect.DeepEqual(got.Goals, c.want) {
			t.Errorf("%q: %+v, want %+v", c.text, got, c.want)
		}
	}
}

func TestFaultsComeWithoutGoals(t *testing.T) {
	for _, c := range []struct {
		text  string
		errno api.Errno
	}{
		{"", api.ErrSyntax}, {"p.", api.ErrSyntax}, {"p q", api.ErrSyntax}, {"p,X<1", api.ErrSyntax}, {"int(X)|p", api.ErrSyntax}, {"p,", api.ErrSyntax}, {"p,X=1234567", api.ErrBig}, {"p,p,p,p,p,p,p", api.ErrBig}, {"p" + strings.Repeat(" ", 96), api.ErrLong},
	} {
		if got, want := Query(c.text), (QueryAnswer{Errno: c.errno}); !reflect.DeepEqual(got, want) {
			t.Errorf("%q: %+v, want %+v", c.text, got, want)
		}
	}
}
