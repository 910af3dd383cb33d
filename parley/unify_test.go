package parley_test

import (
	"strings"
	"testing"

	"parley/api"
	"parley/parley"
)

type unified struct {
	text  string
	ok    bool
	errno api.Errno
}

func wantUnified(t *testing.T, a, b string, want unified) {
	t.Helper()
	var got unified
	got.text, got.ok, got.errno = parley.Unify(a, b)
	if got != want {
		t.Errorf("P5: Unify(%.80q, %.80q) = %+v, want %+v", a, b, got, want)
	}
}

// What two terms have in common is the same the other way round, so each pair is asked for twice.
func wantCommon(t *testing.T, cases [][3]string) {
	t.Helper()
	for _, c := range cases {
		wantUnified(t, c[0], c[1], unified{c[2], true, api.OK})
		wantUnified(t, c[1], c[0], unified{c[2], true, api.OK})
	}
}

func wantNone(t *testing.T, cases [][2]string) {
	t.Helper()
	for _, c := range cases {
		wantUnified(t, c[0], c[1], unified{"", false, api.OK})
		wantUnified(t, c[1], c[0], unified{"", false, api.OK})
	}
}

func wantTooLarge(t *testing.T, cases [][2]string) {
	t.Helper()
	for _, c := range cases {
		wantUnified(t, c[0], c[1], unified{"", false, api.ErrLarge})
		wantUnified(t, c[1], c[0], unified{"", false, api.ErrLarge})
	}
}

func TestTermsThatHaveOneInCommon(t *testing.T) {
	wantCommon(t, [][3]string{
		{"a", "a", "a"}, {"f(a,b,c)", "f(a,b,c)", "f(a,b,c)"}, {"int(X)", "int(1)", "int(1)"}, {"true", "true", "true"},
		{"X", "a", "a"}, {"X", "7", "7"}, {"X", "Y", "V0"}, {"X", "f(Y,Z)", "f(V0,V1)"}, {"f(X)", "f(Y)", "f(V0)"},
		{"f(X,b)", "f(a,Y)", "f(a,b)"}, {"f(g(X),Y)", "f(Z,h(Z))", "f(g(V0),h(g(V0)))"}, {"f(X,X,X)", "f(Y,a,Z)", "f(a,a,a)"}, {"f(X,Y,X)", "f(Z,Z,a)", "f(a,a,a)"},
		{"f(X,g(X))", "f(a,Y)", "f(a,g(a))"}, {"f(X,Y,Z)", "f(g(Y),g(Z),g(X))", "f(g(V0),g(V1),g(V2))"}, {"p(X,q(X))", "p(q(Y),Z)", "p(q(V0),q(q(V0)))"},
		{"f(X,X)", "f(g(Y),g(Z))", "f(g(V0),g(V0))"}, {"f(g(A,B),g(B,C))", "f(D,D)", "f(g(V0,V0),g(V0,V0))"}, {"f(A,B,C)", "f(B,C,a)", "f(V0,V1,a)"}, {"f(A,A,B)", "f(C,D,D)", "f(V0,V0,V0)"},
		{" \nf ( X ,\nY )\n ", " f(a , Z)", "f(a,V0)"},
	})
}

func TestTermsThatHaveNoneInCommon(t *testing.T) {
	wantNone(t, [][2]string{
		{"a", "b"}, {"a", "ab"}, {"a", "a1"}, {"f(X)", "g(X)"}, {"f(X)", "f(X,Y)"}, {"f", "f(X)"}, {"f(X,Y)", "f(X,Y,Z)"}, {"f(a,X)", "f(b,X)"}, {"f(X,a)", "f(X,b)"}, {"f(X,X)", "f(a,b)"}, {"f(X,Y,X)", "f(a,b,c)"}, {"f(X,X,a)", "f(Y,b,Y)"},
		{"1", "a"}, {"1", "f(X)"}, {"1", "2"}, {"0", "f"}, {"f(1)", "f(11)"}, {"f(g(a))", "f(g(b))"}, {"f(X,X)", "f(g(Y),h(Y))"}, {"f(X,X)", "f(1,a)"},
	})
}

func TestNumbersAreTheSameByTheirValue(t *testing.T) {
	wantCommon(t, [][3]string{
		{"1", "01", "1"}, {"000000", "0", "0"}, {"f(007)", "f(7)", "f(7)"}, {"999999", "999999", "999999"}, {"f(X,X)", "f(010,10)", "f(10,10)"}, {"100", "000100", "100"},
	})
	wantNone(t, [][2]string{{"1", "10"}, {"01", "10"}, {"0", "1"}, {"f(X,X)", "f(1,2)"}})
}

func TestVariablesOfTheTwoTextsAreDifferentOnes(t *testing.T) {
	wantCommon(t, [][3]string{
		{"X", "X", "V0"}, {"X", "f(X)", "f(V0)"}, {"f(X,Y)", "f(Y,X)", "f(V0,V1)"}, {"f(X,a)", "f(b,X)", "f(b,a)"}, {"f(X,g(X))", "f(Y,X)", "f(V0,g(V0))"}, {"f(X,Y)", "f(g(X),g(Y))", "f(g(V0),g(V1))"}, {"V0", "f(V1,V0)", "f(V0,V1)"},
	})
}

func TestNoTermStandsWithinItself(t *testing.T) {
	wantNone(t, [][2]string{
		{"f(X,X)", "f(Y,g(Y))"}, {"f(X,X)", "f(g(Y),Y)"}, {"f(X,g(X))", "f(Y,Y)"}, {"f(X,g(X))", "f(g(Y),Y)"}, {"f(X,Y,X)", "f(g(Z),Z,Z)"}, {"f(X,f(Y,f(X,Y)))", "f(g(A),f(g(B),f(B,A)))"}, {"f(g(X,Y),X)", "f(A,g(A,a))"}, {"f(a,g(X),X)", "f(a,Y,Y)"}, {"f(X,X,Y)", "f(A,g(A),b)"},
		// the same terms met again and again on the way round
		{"f(X,Y,g(X,Y))", "f(g(A,A),g(B,B),g(B,A))"}, {"f(X,X,X)", "f(Y,g(Y),g(g(Y)))"}, {"f(X,X,X)", "f(g(g(Y)),g(Z),Y)"}, {"f(X,Y,f(X,Y))", "f(f(f(A)),f(B),f(B,A))"}, {"f(X,X,X)", "f(g(Y,g(Y,Z)),g(Z,Y),Y)"},
	})
	wantCommon(t, [][3]string{
		{"f(X,Y)", "f(g(Z),Z)", "f(g(V0),V0)"}, {"f(X,X)", "f(Y,Y)", "f(V0,V0)"}, {"f(X,Y,X)", "f(Y,Y,X)", "f(V0,V0,V0)"}, {"f(X,X,Y)", "f(A,B,g(A))", "f(V0,V0,g(V0))"}, {"f(g(X),g(X))", "f(Y,Y)", "f(g(V0),g(V0))"},
	})
}

func TestNamesOfTheVariablesInTheAnswer(t *testing.T) {
	wantCommon(t, [][3]string{
		{"f(Z,Y,X)", "A", "f(V0,V1,V2)"}, {"f(Z,Y,Z)", "A", "f(V0,V1,V0)"}, {"f(V2,V1,V0)", "f(V0,V1,V2)", "f(V0,V1,V2)"}, {"f(X,g(Y))", "f(V0,g(V1))", "f(V0,g(V1))"}, {"f(X,Y)", "f(g(A,B),B)", "f(g(V0,V1),V1)"}, {"f(X,Y,Z)", "f(g(Z),Y,g(Y))", "f(g(V0),V1,g(V1))"}, {"f(X,Y,a)", "f(Y,X,Z)", "f(V0,V1,a)"},
		{"f(g(A,B,C),g(D,E,F),h(G,H,g(I,J,K)))", "X", "f(g(V0,V1,V2),g(V3,V4,V5),h(V6,V7,g(V8,V9,V10)))"},
	})
}

// thirteen has the size 13, twenty the size 20.
const (
	thirteen = "g(a,b,h(1,A,h(a,B,h(a,A,c))))"
	twenty   = "g(h(a,b,c),h(a,b,k(c)),h(a,1,h(a,1,h(a,1,2))))"
)

func TestSizeOfTheAnswer(t *testing.T) {
	shown := "g(a,b,h(1,V0,h(a,V1,h(a,V0,c))))"
	nine := "k(X,X,k(X,X,k(X,X,k(X,X,X))))"
	wantCommon(t, [][3]string{
		{"f(X,X,X)", "f(" + thirteen + ",Y,Z)", "f(" + shown + "," + shown + "," + shown + ")"},
		{nine, "k(g(a,b,c),Y,Z)", strings.ReplaceAll(nine, "X", "g(a,b,c)")},
		{nine, "k(g(A,B,C),Y,Z)", strings.ReplaceAll(nine, "X", "g(V0,V1,V2)")},
		{nine, "k(g(A,B,A),Y,Z)", strings.ReplaceAll(nine, "X", "g(V0,V1,V0)")},
	})
	wantTooLarge(t, [][2]string{
		{"f(X,X,k(X))", "f(" + thirteen + ",Y,Z)"},
		{"k(" + nine + ")", "k(k(g(a,b,c),Y,Z))"},
		{"k(" + nine + ")", "k(k(g(A,A,A),Y,Z))"},
		{"f(X,X)", "f(" + twenty + ",Y)"},
		{"f(X,X,X)", "f(" + twenty + ",Y,Z)"},
	})
}

// Each variable stands for three times the next one, so the whole has thousands of places.
const (
	great      = "f(A,g(B,B,B),f(B,g(C,C,C),f(C,g(D,D,D),f(D,g(E,E,E),@))))"
	greatOther = "f(g(X,X,X),X,f(g(Y,Y,Y),Y,f(g(Z,Z,Z),Z,f(g(W,W,W),W,@))))"
)

func TestGreatTermsOfSmallTexts(t *testing.T) {
	pair := func(a, b string) [2]string {
		return [2]string{strings.Replace(great, "@", a, 1), strings.Replace(greatOther, "@", b, 1)}
	}
	wantTooLarge(t, [][2]string{pair("a", "a"), pair("E", "V"), pair("V", "V"), pair("A", "V"), pair("A", "g(X,V,X)")})
	// that there is none shows ahead of the size
	wantNone(t, [][2]string{pair("a", "b"), pair("E", "W"), pair("A", "W"), pair("D", "f(W)"), pair("A", "g(X,V,a)"), pair("E", "X"), pair("1", "2"), pair("B", "h(V)")})
	wantNone(t, [][2]string{{"f(X,X,k(X,a))", "f(" + thirteen + ",Y,k(Z,b))"}})
}
