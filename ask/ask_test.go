package ask

import (
	"reflect"
	"testing"

	"parley/api"
	"parley/read"
	"parley/store"
	"parley/tree"
)

// asking is a call in a store, with the nodes of its variables.
type asking struct {
	terms store.Store
	scope store.Scope
	call  int
}

func ask(t *testing.T, call string) *asking {
	t.Helper()
	query := read.Query(call)
	if query.Errno != api.OK || len(query.Goals) != 1 {
		t.Fatalf("%q is no call", call)
	}
	var a asking
	a.call = a.terms.Add(query.Goals[0].Left, &a.scope)
	return &a
}

func clauseOf(t *testing.T, text string) tree.Clause {
	t.Helper()
	program := read.Program(text)
	if program.Errno != api.OK || len(program.Clauses) != 1 {
		t.Fatalf("%q is no clause", text)
	}
	return program.Clauses[0]
}

// waits has the numbers of the call's variables.
func TestWhatAClauseSays(t *testing.T) {
	for _, c := range []struct {
		clause, call string
		says         int
		waits        []int
	}{
		{"p.", "p", api.Yes, nil}, {"p(X).", "p(A)", api.Yes, nil}, {"p(a).", "p(b)", api.No, nil}, {"p(a,b).", "p(A,B)", api.Wait, []int{0, 1}}, {"p(a,b,c).", "p(A,B,a)", api.No, nil},
		{"p(X):-X<1|q.", "p(0)", api.Yes, nil}, {"p(X):-X<1|q.", "p(1)", api.No, nil}, {"p(X):-X=<1|q.", "p(1)", api.Yes, nil}, {"p(X):-X<1|q.", "p(A)", api.Wait, []int{0}}, {"p(X):-X<1|q.", "p(a)", api.No, nil}, {"p(X):-0<X|q.", "p(f(A))", api.No, nil},
		{"p(X,Y):-X==Y|q.", "p(A,A)", api.Yes, nil}, {"p(X,Y):-X==Y|q.", "p(A,B)", api.Wait, []int{0, 1}}, {"p(X,Y):-X==Y|q.", "p(f(A,a),f(B,b))", api.No, nil}, {"p(X,Y):-X\\=Y|q.", "p(A,A)", api.No, nil}, {"p(X,Y):-X\\=Y|q.", "p(A,B)", api.Wait, []int{0, 1}}, {"p(X,Y):-X\\=Y|q.", "p(f(A,a),f(B,b))", api.Yes, nil},
		{"p(X):-int(X)|q.", "p(7)", api.Yes, nil}, {"p(X):-int(X)|q.", "p(a)", api.No, nil}, {"p(X):-int(X)|q.", "p(A)", api.Wait, []int{0}},
		{"p(X,Y):-X<1,Y<1|q.", "p(A,B)", api.Wait, []int{0, 1}}, {"p(X,Y):-X<1,Y<1|q.", "p(A,1)", api.No, nil}, {"p(X,Y):-X<1,Y<1|q.", "p(1,B)", api.No, nil}, {"p(X,Y):-X<1,Y<1|q.", "p(0,B)", api.Wait, []int{0}},
		// the head waits, so the tests are not asked
		{"p(a,X):-X<1|q.", "p(A,B)", api.Wait, []int{0}}, {"p(a,X):-X<1|q.", "p(A,2)", api.Wait, []int{0}},
		// variables that the clause alone knows
		{"p:-X<1|q.", "p", api.Wait, nil}, {"p(X):-X==Y|q.", "p(A)", api.Wait, []int{0}}, {"p(X):-Y==X|q.", "p(1)", api.Wait, nil}, {"p:-X==X|q.", "p", api.Yes, nil}, {"p:-X\\=X|q.", "p", api.No, nil}, {"p(X,Z):-f(Y,X)==f(X,Z)|q.", "p(A,B)", api.Wait, []int{0, 1}},
	} {
		a := ask(t, c.call)
		var want []int
		for _, which := range c.waits {
			want = append(want, a.scope.Nodes[which])
		}
		answer := Clause(&a.terms, clauseOf(t, c.clause), a.call)
		if answer.Says != c.says || c.says == api.Wait && !sameNodes(answer.Waits, want) {
			t.Errorf("%q, %q: %+v, want %d, %v", c.clause, c.call, answer, c.says, want)
		}
	}
}

// sameNodes leaves the order aside.
func sameNodes(a, b []int) bool {
	counts := map[int]int{}
	for _, n := range a {
		counts[n]++
	}
	for _, n := range b {
		counts[n]--
	}
	for _, count := range counts {
		if count != 0 {
			return false
		}
	}
	return true
}

func TestWhatTheVariablesStandFor(t *testing.T) {
	a := ask(t, "p(A,f(b,A))")
	answer := Clause(&a.terms, clauseOf(t, "p(X,f(Y,X)):-Z==Z|q(Z,X)."), a.call)
	args := a.terms.Args(a.call)
	below := a.terms.Args(args[1])
	if answer.Says != api.Yes || len(answer.Scope.Nodes) != 3 || !reflect.DeepEqual(answer.Scope.Nodes[:2], []int{args[0], below[0]}) {
		t.Fatalf("%+v", answer)
	}
	if own := answer.Scope.Nodes[2]; a.terms.Label(own).Kind != tree.Variable || own <= a.call {
		t.Errorf("the clause's own variable is %d", own)
	}
}

// The values that the call's variables have are seen, and none gets one by the asking.
func TestValuesAreSeenAndNotGiven(t *testing.T) {
	a := ask(t, "p(A,B)")
	one := a.terms.Add(tree.Term{Kind: tree.Number, Value: 1}, &store.Scope{})
	if !a.terms.Unify(a.scope.Nodes[0], one) {
		t.Fatal("a variable got no value")
	}
	for text, says := range map[string]int{
		"p(1,X).": api.Yes, "p(2,X).": api.No, "p(X,X).": api.Wait, "p(X,Y):-X<2|q.": api.Yes, "p(X,Y):-X==1|q.": api.Yes, "p(X,Y):-int(X)|q.": api.Yes, "p(X,Y):-Y<X|q.": api.Wait, "p(X,Y):-Z==Y|q.": api.Wait,
	} {
		answer := Clause(&a.terms, clauseOf(t, text), a.call)
		if answer.Says != says {
			t.Errorf("%q: %d, want %d", text, answer.Says, says)
		}
		if says == api.Wait && !reflect.DeepEqual(answer.Waits, a.scope.Nodes[1:]) {
			t.Errorf("%q: waits for %v, want %v", text, answer.Waits, a.scope.Nodes[1:])
		}
	}
	if b := a.scope.Nodes[1]; a.terms.Front(b) != b {
		t.Error("the asking gave a value")
	}
}
