package parley_test

import (
	"slices"
	"strings"
	"testing"

	"parley/api"
	"parley/parley"
)

// asked answers what a test says, where A and B are the two terms, and which variables the goal waits for then: those that make it ready by getting a value.
func asked(t *testing.T, test, a, b string) matched {
	t.Helper()
	program := "p(A,B):-" + test + "|true."
	call := "p(" + a + "," + b + ")"
	r, errno := parley.Run(program, call, first(1))
	if errno != api.OK || len(r.Log) != 1 {
		t.Fatalf("P9: %q with %q and %q: %s, %d", test, a, b, resultText(r), errno)
	}
	switch r.Log[0] {
	case 1:
		return matched{says: api.Yes}
	case -2:
		return matched{says: api.No}
	}
	var waits []string
	for _, token := range tokensOf(call) {
		if token.terminal != "Var" || slices.Contains(waits, token.text) {
			continue
		}
		r, _ := parley.Run(program, call+","+token.text+"=z", goals(0, 0))
		if len(r.Waits) > 0 && !r.Waits[0] {
			waits = append(waits, token.text)
		}
	}
	return matched{says: api.Wait, waits: strings.Join(waits, " ")}
}

func wantAsked(t *testing.T, a, test, b string, want matched) {
	t.Helper()
	if got := asked(t, test, a, b); got != want {
		t.Errorf("P9: %s where A is %s and B is %s: %+v, want %+v", test, a, b, got, want)
	}
}

func TestTestsOfOrder(t *testing.T) {
	yes, no := matched{says: api.Yes}, matched{says: api.No}
	for _, c := range []struct {
		a, b           string
		less, notAbove matched
	}{
		{"1", "2", yes, yes}, {"2", "1", no, no}, {"2", "2", no, yes}, {"0", "0", no, yes}, {"007", "7", no, yes}, {"9", "10", yes, yes}, {"10", "9", no, no}, {"999999", "0", no, no}, {"0", "999999", yes, yes},
		{"a", "b", no, no}, {"a", "a", no, no}, {"a", "1", no, no}, {"1", "a", no, no}, {"f(1)", "2", no, no}, {"0", "f(1)", no, no}, {"f(X)", "f(Y)", no, no}, {"f(X)", "f(X)", no, no}, {"1", "f(X)", no, no}, {"f(X)", "1", no, no},
	} {
		wantAsked(t, c.a, "A<B", c.b, c.less)
		wantAsked(t, c.a, "A=<B", c.b, c.notAbove)
		wantAsked(t, c.b, "B<A", c.a, c.less)
		wantAsked(t, c.b, "B=<A", c.a, c.notAbove)
	}
	for _, c := range []struct{ a, b, waits string }{
		{"X", "1", "X"}, {"1", "X", "X"}, {"X", "Y", "X Y"}, {"X", "X", "X"}, {"X", "a", "X"}, {"a", "X", "X"}, {"X", "f(Y)", "X"}, {"f(Y)", "X", "X"}, {"X", "f(X)", "X"},
	} {
		wantAsked(t, c.a, "A<B", c.b, matched{api.Wait, c.waits, api.OK})
		wantAsked(t, c.a, "A=<B", c.b, matched{api.Wait, c.waits, api.OK})
	}
}

// What `==` says; `\=` says No where that says Yes, and Yes where it says No.
func TestTestsOfSameness(t *testing.T) {
	for _, c := range []struct{ a, b string }{
		{"1", "1"}, {"01", "1"}, {"a", "a"}, {"X", "X"}, {"f(X)", "f(X)"}, {"f(X,g(Y,a))", "f(X,g(Y,a))"},
	} {
		wantAsked(t, c.a, "A==B", c.b, matched{says: api.Yes})
		wantAsked(t, c.a, "A\\=B", c.b, matched{says: api.No})
	}
	for _, c := range []struct{ a, b string }{
		{"1", "2"}, {"a", "b"}, {"a", "1"}, {"1", "f(X)"}, {"a", "f(X)"}, {"f", "f(X)"}, {"f(X)", "g(X)"}, {"f(X)", "f(X,Y)"}, {"f(X,a)", "f(X,b)"}, {"f(X,a)", "f(Y,b)"}, {"f(a,X)", "f(b,Y)"}, {"f(g(X,1))", "f(g(Y,2))"},
	} {
		wantAsked(t, c.a, "A==B", c.b, matched{says: api.No})
		wantAsked(t, c.a, "A\\=B", c.b, matched{says: api.Yes})
	}
	for _, c := range []struct{ a, b, waits string }{
		{"X", "1", "X"}, {"1", "X", "X"}, {"X", "Y", "X Y"}, {"X", "f(Y)", "X"}, {"X", "f(X)", "X"}, {"f(X,Y)", "f(X,a)", "Y"}, {"f(X,Y)", "f(Y,X)", "X Y"}, {"f(X,g(Y))", "f(a,g(Z))", "X Y Z"}, {"f(X,X)", "f(a,b)", "X"},
	} {
		wantAsked(t, c.a, "A==B", c.b, matched{api.Wait, c.waits, api.OK})
		wantAsked(t, c.a, "A\\=B", c.b, matched{api.Wait, c.waits, api.OK})
	}
}

func TestTestsOfInt(t *testing.T) {
	for _, c := range []struct {
		a    string
		want matched
	}{
		{"0", matched{says: api.Yes}}, {"999999", matched{says: api.Yes}}, {"a", matched{says: api.No}}, {"int", matched{says: api.No}}, {"f(1)", matched{says: api.No}}, {"f(X)", matched{says: api.No}}, {"int(1)", matched{says: api.No}}, {"X", matched{says: api.Wait, waits: "X"}},
	} {
		wantAsked(t, c.a, "int(A)", "b", c.want)
		wantAsked(t, "b", "int(B)", c.a, c.want)
	}
}

// The sides of a test are terms in which the head's variables stand.
func TestTestsOfTerms(t *testing.T) {
	for _, c := range []struct {
		test, a, b string
		want       matched
	}{
		{"f(A,1)==f(B,1)", "X", "X", matched{says: api.Yes}}, {"f(A,B)==f(B,A)", "a", "b", matched{says: api.No}}, {"f(A,B)==f(B,A)", "X", "b", matched{says: api.Wait, waits: "X"}}, {"A==f(B)", "f(X)", "X", matched{says: api.Yes}}, {"A==f(B)", "f(X)", "Y", matched{says: api.Wait, waits: "X Y"}}, {"A\\=f(B)", "f(1)", "2", matched{says: api.Yes}}, {"A\\=f(B)", "f(2)", "2", matched{says: api.No}},
		{"1<2", "a", "b", matched{says: api.Yes}}, {"2<1", "X", "Y", matched{says: api.No}}, {"f(A)<1", "X", "b", matched{says: api.No}}, {"1=<a", "X", "b", matched{says: api.No}}, {"int(f(A))", "X", "b", matched{says: api.No}}, {"int(7)", "X", "b", matched{says: api.Yes}}, {"a==a", "X", "b", matched{says: api.Yes}}, {"A==A", "X", "b", matched{says: api.Yes}}, {"A\\=A", "X", "b", matched{says: api.No}}, {"A<A", "X", "b", matched{says: api.Wait, waits: "X"}},
	} {
		wantAsked(t, c.a, c.test, c.b, c.want)
	}
}

// All tests are asked: No goes ahead of Wait wherever it is, and it is waited for all that one of them waits for.
func TestSeveralTests(t *testing.T) {
	for _, c := range []struct {
		test, a, b string
		want       matched
	}{
		{"A<5,B<5", "1", "2", matched{says: api.Yes}}, {"A<5,B<5", "1", "7", matched{says: api.No}}, {"A<5,B<5", "7", "1", matched{says: api.No}}, {"A<5,B<5", "X", "7", matched{says: api.No}}, {"A<5,B<5", "7", "X", matched{says: api.No}}, {"A<5,B<5", "X", "1", matched{says: api.Wait, waits: "X"}}, {"A<5,B<5", "1", "X", matched{says: api.Wait, waits: "X"}}, {"A<5,B<5", "X", "Y", matched{says: api.Wait, waits: "X Y"}}, {"int(A),A\\=B", "X", "X", matched{says: api.No}}, {"A\\=B,int(A)", "X", "X", matched{says: api.No}},
		// a test that says Yes by a difference does not wait for what else stands in it
		{"A\\=B,int(7)", "f(X,1)", "f(Y,2)", matched{says: api.Yes}}, {"A\\=f(B,2),int(B)", "f(X,1)", "Y", matched{says: api.Wait, waits: "Y"}},
		{"1<2,2<3,3<4,4<5,5<6,A<7", "X", "a", matched{says: api.Wait, waits: "X"}}, {"1<2,2<3,3<4,4<5,5<6,A<7", "7", "a", matched{says: api.No}}, {"1<2,2<3,3<4,4<5,5<6,A<7", "6", "a", matched{says: api.Yes}},
	} {
		wantAsked(t, c.a, c.test, c.b, c.want)
	}
}

// X is -5 and Y is -6.
func TestNumbersBelowNoughtInTests(t *testing.T) {
	const program = "l(X,Y):-X<Y|true. n(X,Y):-X=<Y|true. i(X):-int(X)|true. s(X,Y):-X==Y|true. o(X,Y):-X\\=Y|true."
	for goal, entry := range map[string]int{
		"l(X,0)": 1, "l(0,X)": -2, "l(X,X)": -2, "l(X,Y)": -2, "l(Y,X)": 1, "n(X,X)": 2, "n(X,0)": 2, "n(Y,X)": 2, "n(X,Y)": -2, "i(X)": 3, "s(X,X)": 4, "s(X,5)": -2, "o(X,5)": 5, "o(X,X)": -2,
	} {
		r, errno := parley.Run(program, "X:=0-5,Y:=0-6,"+goal, first(3))
		if errno != api.OK || !slices.Equal(r.Log, []int{0, 0, entry}) {
			t.Errorf("P9: %s: %s, want %d", goal, resultText(r), entry)
		}
	}
}

func TestTheHeadGoesAheadOfTheTests(t *testing.T) {
	wantRuns(t, "P8", []running{
		// where the head waits, no test is asked: neither for its No nor for what it waits for
		{"p(a,X):-X<1|true.", "p(A,2)", first(1), "Deadlock; -1; V0; p(V0,2)~"}, {"p(a,X):-X<1|true.", "p(A,B),B=0", first(2), "Deadlock; -1 0; V0 0; p(V0,0)~"}, {"p(a,X):-X<1|true.", "p(A,B),A=a", first(3), "Deadlock; -1 0 -1; a V0; p(a,V0)~"}, {"p(a):-1<0|true.", "p(A)", first(1), "Deadlock; -1; V0; p(V0)~"},
		{"p(a,X):-X<1|true.", "p(b,B)", first(1), "Failure; -2; ; "},
		{greater, "max(3,5,Z)", first(2), "Success; 1 0; 5; "}, {greater, "max(5,3,Z)", first(2), "Success; 2 0; 5; "}, {greater, "max(5,5,Z)", clauses(0, 0), "Success; 2 0; 5; "}, {greater, "max(X,5,Z),X=7", first(4), "Success; -1 0 2 0; 7 7; "}, {greater, "max(a,5,Z)", first(1), "Failure; -2; ; "},
		// what the tests of one clause and the head of another wait for
		{"p(X,Y):-X<1|true. p(X,a).", "p(A,B),A=3", goals(0, 0), "Open; -1 0; 3 V0; p(3,V0)"}, {"p(X,Y):-X<1|true. p(X,a).", "p(A,B),B=b", goals(0, 0), "Open; -1 0; V0 b; p(V0,b)"}, {"p(X,Y):-X<1|true. p(X,a).", "p(A,B),B=b", goals(0, 0, 0), "Deadlock; -1 0 -1; V0 b; p(V0,b)~"},
	})
}

// In a test it is a variable that nobody else knows: the test waits for it, the goal does not.
func TestVariablesOfTestsThatTheHeadHasNot(t *testing.T) {
	wantRuns(t, "P8", []running{
		{"p:-X<1|true.", "p", first(9), "Deadlock; -1; ; p~"}, {"p:-X=<1|true.", "p", first(9), "Deadlock; -1; ; p~"}, {"p:-X==1|true.", "p", first(9), "Deadlock; -1; ; p~"}, {"p:-X==Y|true.", "p", first(9), "Deadlock; -1; ; p~"}, {"p:-X\\=1|true.", "p", first(9), "Deadlock; -1; ; p~"}, {"p:-int(X)|true.", "p", first(9), "Deadlock; -1; ; p~"},
		{"p:-X==X|true.", "p", first(9), "Success; 1 0; ; "}, {"p:-X\\=X|true.", "p", first(9), "Failure; -2; ; "}, {"p:-f(X)<1|true.", "p", first(9), "Failure; -2; ; "}, {"p:-int(f(X))|true.", "p", first(9), "Failure; -2; ; "}, {"p:-f(X)==g(X)|true.", "p", first(9), "Failure; -2; ; "}, {"p:-f(X)\\=g(Y)|true.", "p", first(9), "Success; 1 0; ; "}, {"p:-X<1,2<1|true.", "p", first(9), "Failure; -2; ; "},
		// with others: those alone are waited for
		{"p(A):-A==X|true.", "p(B),B=1", first(9), "Deadlock; -1 0 -1; 1; p(1)~"}, {"p(A):-X<A|true.", "p(B),B=1", goals(0, 0), "Open; -1 0; 1; p(1)"}, {"p(A):-X<A|true.", "p(B),B=1", goals(0, 0, 0), "Deadlock; -1 0 -1; 1; p(1)~"}, {"p(A):-X<1,A<1|true.", "p(B),B=1", goals(0, 0, 0), "Failure; -1 0 -2; ; "},
		// it is another one than the query's of the same name, and another one each time
		{"p:-X<1|true.", "X=0,p", first(9), "Deadlock; 0 -1; 0; p~"}, {"p:-X<1|true.", "p,X=0", first(9), "Deadlock; -1 0; 0; p~"}, {"p:-X==Y|true. q:-X=Y,p.", "q", first(9), "Deadlock; 2 0 -1; ; p~"},
		// one clause's mean nothing to another's
		{"p(A):-X==A|true. p(B):-B==X|true.", "p(C),C=1", goals(0, 0, 0), "Deadlock; -1 0 -1; 1; p(1)~"},
		// another clause may still say Yes or wait
		{"p(A):-X<1|true. p(a).", "p(a)", first(1), "Success; 2; ; "}, {"p(A):-X<1|true. p(a).", "p(B),B=a", first(3), "Success; -1 0 2; a; "}, {"p(A):-X<1|true. p(a).", "p(b)", first(9), "Deadlock; -1; ; p(b)~"},
		// in a goal it is the one that the test has
		{"p:-X==X|q(X,Y,X).", "p", first(1), "Open; 1; ; q(V0,V1,V0)"}, {"p(A):-f(X)\\=g(Y)|q(Y,A,X).", "p(B)", first(1), "Open; 1; V0; q(V1,V0,V2)"},
	})
}

func TestGoalsThatWaitForNone(t *testing.T) {
	const program = "p:-X<1|true. q."
	wantRuns(t, "P8", []running{
		{program, "p,q", goals(0), "Open; -1; ; p~ q"}, {program, "p,q", goals(0, 0), "Deadlock; -1 2; ; p~"}, {program, "p,q,p,q", goals(0, 1, -1, 3), "Deadlock; -1 -1 2 2; ; p~ p~"}, {program, "p,X=1,Y=2", first(9), "Deadlock; -1 0 0; 1 2; p~"}, {program, "q,p,q", goals(1, 1, 0), "Deadlock; -1 2 2; ; p~"},
	})
}
