package parley_test

import (
	"strings"
	"testing"

	"parley/api"
	"parley/parley"
)

// matched has what is waited for with a space between.
type matched struct {
	says  int
	waits string
	errno api.Errno
}

func wantMatched(t *testing.T, pattern, term string, want matched) {
	t.Helper()
	says, waits, errno := parley.Match(pattern, term)
	if got := (matched{says, strings.Join(waits, " "), errno}); got != want {
		t.Errorf("P6: Match(%.80q, %.80q) = %+v, want %+v", pattern, term, got, want)
	}
}

func wantSays(t *testing.T, says int, cases [][2]string) {
	t.Helper()
	for _, c := range cases {
		wantMatched(t, c[0], c[1], matched{says: says})
	}
}

func wantWaits(t *testing.T, cases [][3]string) {
	t.Helper()
	for _, c := range cases {
		wantMatched(t, c[0], c[1], matched{says: api.Wait, waits: c[2]})
	}
}

func TestPatternsThatMatch(t *testing.T) {
	wantSays(t, api.Yes, [][2]string{
		{"a", "a"}, {"7", "007"}, {"000", "0"}, {"X", "a"}, {"X", "1"}, {"X", "Y"}, {"X", "X"}, {"X", "f(Y,a)"}, {"f(X)", "f(X)"}, {"f(X,Y)", "f(a,b)"}, {"f(X,Y)", "f(A,A)"}, {"f(X,Y)", "f(Y,X)"}, {"f(g(X),Y)", "f(g(a),h)"}, {"f(X,g(Y),1)", "f(g(Z),g(h(Z)),1)"}, {" f ( X )", "f(\nY )"},
		{"f(X,X)", "f(a,a)"}, {"f(X,X)", "f(1,01)"}, {"f(X,X)", "f(Y,Y)"}, {"f(X,X)", "f(g(Y,a),g(Y,a))"}, {"f(X,g(X,h(X)))", "f(k(Y),g(k(Y),h(k(Y))))"}, {"f(X,Y,X)", "f(Y,X,Y)"}, {"X", "f(X)"}, {"f(X,X,X)", "f(A,A,A)"},
	})
}

func TestPatternsThatDiffer(t *testing.T) {
	wantSays(t, api.No, [][2]string{
		{"a", "b"}, {"a", "aa"}, {"a", "1"}, {"1", "a"}, {"1", "2"}, {"1", "f(X)"}, {"f(X)", "1"}, {"f(X)", "g(X)"}, {"f(X)", "f"}, {"f", "f(X)"}, {"f(X)", "f(X,Y)"}, {"f(X,Y,Z)", "f(X,Y)"}, {"f(X,a)", "f(b,c)"}, {"f(g(h(a)))", "f(g(h(b)))"}, {"f(g(X))", "f(g(X,Y))"},
		{"f(X,X)", "f(a,b)"}, {"f(X,X)", "f(1,a)"}, {"f(X,X)", "f(1,2)"}, {"f(X,X)", "f(g(Y),h(Y))"}, {"f(X,X)", "f(g(Y),g(Y,Z))"}, {"f(X,X)", "f(g,g(Y))"}, {"f(X,X)", "f(g(a,h(b)),g(a,h(c)))"}, {"f(X,g(X))", "f(a,g(h(a)))"},
	})
}

// Wherever the No is, and whatever waits ahead of it and behind.
func TestNoGoesAheadOfWait(t *testing.T) {
	wantSays(t, api.No, [][2]string{
		{"f(a,b)", "f(X,c)"}, {"f(b,a)", "f(c,X)"}, {"f(a,g(b),c)", "f(X,g(Y),d)"}, {"f(g(a,b),c)", "f(g(X,c),Y)"}, {"f(a,g(h(b)))", "f(X,g(h(c)))"}, {"f(g(h(b)),a)", "f(g(h(c)),X)"},
		{"f(X,X)", "f(g(Y,a),g(Z,b))"}, {"f(X,X)", "f(g(a,Y),g(b,Z))"}, {"f(X,X,a)", "f(Y,Z,b)"}, {"f(a,X,X)", "f(Y,b,c)"}, {"f(X,X,X)", "f(a,Y,b)"}, {"f(g(X),X,X)", "f(Y,1,2)"},
	})
}

func TestPatternsThatWait(t *testing.T) {
	wantWaits(t, [][3]string{
		{"a", "X", "X"}, {"1", "X", "X"}, {"f(X)", "Y", "Y"}, {"f(X)", "X", "X"}, {"f(X,a)", "f(Y,Z)", "Z"}, {"f(Y,a)", "f(X,Y)", "Y"}, {"f(g(a),h)", "f(Xy1,h)", "Xy1"}, {"f(g(a))", "f(g(X))", "X"},
		{"f(X,X)", "f(Y,a)", "Y"}, {"f(X,X)", "f(a,Y)", "Y"}, {"f(X,X)", "f(Y,Z)", "Y Z"}, {"f(X,X)", "f(Y,g(Y))", "Y"}, {"f(X,X)", "f(g(Y),Y)", "Y"}, {"f(X,X)", "f(g(A,b),g(a,B))", "A B"}, {"f(X,X)", "f(1,Y)", "Y"},
	})
}

// It goes no deeper where it waits: what a variable stands for is found behind, and a No below is not seen.
func TestNothingIsMetBelowAVariable(t *testing.T) {
	wantWaits(t, [][3]string{
		{"f(g(X),X)", "f(Y,a)", "Y"}, {"f(g(X),X)", "f(Y,Z)", "Y"}, {"f(g(X),X,X)", "f(Y,a,a)", "Y"}, {"f(g(X),X,X)", "f(Y,A,B)", "Y A B"}, {"f(X,X)", "f(A,g(B,C))", "A"}, {"f(X,X,X)", "f(A,a,b)", "A"}, {"f(X,X,g(X))", "f(A,a,g(b))", "A"}, {"f(g(1,X),X)", "f(Y,f(Y))", "Y"},
	})
}

func TestTheSameVariableTwiceIsNothingToSay(t *testing.T) {
	wantWaits(t, [][3]string{{"f(X,X,a)", "f(Y,Y,Z)", "Z"}, {"f(X,X)", "f(g(A,B),g(A,C))", "B C"}, {"f(X,X,X)", "f(A,B,A)", "A B"}})
}

func TestEachIsWaitedForOnceInTheOrderOfTheTerm(t *testing.T) {
	wantWaits(t, [][3]string{
		{"f(a,b)", "f(X,X)", "X"}, {"f(a,b,c)", "f(Z,A,Z)", "Z A"}, {"f(a,g(b),c)", "f(C,g(B),A)", "C B A"}, {"f(X,X,X)", "f(A,B,C)", "A B C"},
		// it comes to wait for them in another order
		{"f(X,a,X)", "f(A,B,C)", "A B C"}, {"f(X,g(a),X)", "f(h(A,B),g(C),h(B,D))", "A B C D"}, {"f(X,a,b)", "f(g(B,A),A,B)", "B A"}, {"f(X,a,X)", "f(g(B,A),A,g(A,C))", "B A C"}, {"f(X,g(Y,Y),X)", "f(A,g(C,B),D)", "A C B D"},
	})
}

// What came out is the caller's: what is written there, spare room too, shows up nowhere else.
func TestListsOfMatchAreNewMemory(t *testing.T) {
	ask := func() []string {
		_, waits, _ := parley.Match("f(a,b,c)", "f(X,Y,Z)")
		return waits
	}
	first := ask()
	second := ask()
	room := first[:cap(first)]
	for i := range room {
		room[i] = "W"
	}
	third := ask()
	for _, waits := range [][]string{second, third} {
		if got := strings.Join(waits, " "); got != "X Y Z" {
			t.Errorf("P2: %q", got)
		}
	}
}

// The same pairs, once in their order and once the other way round: what went before must not matter.
func TestAnswersHangOnTheTermsAlone(t *testing.T) {
	texts := []string{"a", "X", "f(X,X)", "f(Y,g(Y))", "f(A,B)", "f(1,01)", "f(a", "1234567", strings.Repeat("a", 65), "f(g(Y,a),g(Z,b))"}
	type answer struct {
		unified unified
		matched matched
	}
	ask := func(a, b string) answer {
		var got answer
		got.unified.text, got.unified.ok, got.unified.errno = parley.Unify(a, b)
		says, waits, errno := parley.Match(a, b)
		got.matched = matched{says, strings.Join(waits, " "), errno}
		return got
	}
	first := map[[2]string]answer{}
	for _, a := range texts {
		for _, b := range texts {
			first[[2]string{a, b}] = ask(a, b)
		}
	}
	for i := len(texts) - 1; i >= 0; i-- {
		for j := len(texts) - 1; j >= 0; j-- {
			a, b := texts[i], texts[j]
			if again := ask(a, b); again != first[[2]string{a, b}] {
				t.Errorf("P2: %.40q, %.40q: %+v, and once more %+v", a, b, first[[2]string{a, b}], again)
			}
		}
	}
}
