package parley_test

import (
	"slices"
	"strings"
	"testing"

	"parley/api"
	"parley/parley"
)

func times(n int, word string) string { return strings.TrimSpace(strings.Repeat(word+" ", n)) }

// A pool of MaxGoals goals goes on, one of one more does not.
func TestBoundsOfThePool(t *testing.T) {
	wantRuns(t, "P10", []running{
		{"w:-w,w.", "w", first(23), "Open; " + times(23, "1") + "; ; " + times(24, "w")},
		{"w:-w,w.", "w", first(24), "Large; " + times(24, "1") + "; ; "},
		{"w:-w,w.", "w", first(100), "Large; " + times(24, "1") + "; ; "},
		{"w:-w,w,w,w,w,w.", "w,w,w,w", first(4), "Open; 1 1 1 1; ; " + times(24, "w")},
		{"w:-w,w,w,w,w,w.", "w,w,w,w", first(5), "Large; 1 1 1 1 1; ; "},
		{"w:-w,w,w,w,w,w.", "w,w,w,w,w", first(4), "Large; 1 1 1 1; ; "},
		{"w:-true,true,true,true,true,true.", "w,w,w,w", first(28), "Success; 1 1 1 1 " + times(24, "0") + "; ; "},
	})
}

// Worked off in their order, they give X a size of exactly MaxSize, and of one more.
const (
	size40 = "X=f(Y,Y,Y),Y=f(Z,Z,Z),Z=f(W,W,W)"
	size41 = "X=g(V),V=f(Y,Y,Y),Y=f(Z,Z,Z),Z=f(W,W,W)"
)

func thrice(t string) string { return "f(" + t + "," + t + "," + t + ")" }

func TestBoundsOfValues(t *testing.T) {
	z := thrice("V0")
	y := thrice(z)
	x := thrice(y)
	values := x + " " + y + " " + z + " V0"
	wantRuns(t, "P10", []running{
		{"", size40, first(3), "Success; 0 0 0; " + values + "; "},
		{"", size40, goals(2, 1, 0), "Success; 0 0 0; " + values + "; "},
		{"", size40 + ",W=1", first(4), "Success; 0 0 0 0; " + strings.ReplaceAll(values, "V0", "1") + "; "},
		{"", size40 + ",W=g(U)", first(4), "Large; 0 0 0 0; ; "},
		{"", size40 + ",true", goals(0, 0, 0), "Open; 0 0 0; " + values + "; true"},
		// the pool is empty behind the last step, and yet it is too large
		{"", size41, first(4), "Large; 0 0 0 0; ; "},
		{"", size41 + ",true", first(9), "Large; 0 0 0 0; ; "},
		// any of the query's variables
		{"", "Y=f(Z,Z,Z),Z=f(W,W,W),W=f(U,U,U),X=Y", first(4), "Success; 0 0 0 0; " + values + " " + x + "; "},
		{"", "Y=f(Z,Z,Z),Z=f(W,W,W),W=f(U,U,U),g(Y)=X", goals(3, 0, 0, 0), "Large; 0 0 0 0; ; "},
		{"p(X):-" + size41 + ".", "p(A)", first(9), "Large; 1 0 0 0 0; ; "},
		{"p(X):-" + size40 + ".", "p(A)", first(9), "Success; 1 0 0 0; " + x + "; "},
		{"p(X):-" + size40 + ".", "p(g(A))", first(9), "Failure; 1 -2; ; "},
		{"p(X):-" + size40 + ".", "B=g(A),p(A)", first(9), "Large; 0 1 0 0 0; ; "},
	})
}

// wantEnd looks at the end and the log alone.
func wantEnd(t *testing.T, c running) {
	t.Helper()
	r, _ := parley.Run(c.program, c.query, c.script)
	got := resultText(api.Result{End: r.End, Log: r.Log})
	if got != c.want+"; ; " {
		t.Errorf("P10: Run(%q, %q, %v) = %s, want %s", c.program, c.query, c.script, got, c.want)
	}
}

// One goal of each kind in which X stands, and nobody works it off: what it has in it is seen, ahead of the others and behind them.
func TestBoundsOfWhatStandsInThePool(t *testing.T) {
	for _, goal := range []string{"p(X)", "p(a,X)", "p(a,b,X)", "p(X,X,X)", "true(X)", "X=a", "a=X", "X=X", "X:=A", "A:=X", "A:=X+1", "A:=1-X", "A:=B*X", "A:=X*X"} {
		for _, c := range []struct {
			equations string
			end       string
		}{
			{size40, "Open; 1 0 0 0"}, {size41, "Large; 1 0 0 0 0"},
		} {
			count := strings.Count(c.equations, "=")
			wantEnd(t, running{"q:-" + goal + "," + c.equations + ".", "q", slices.Concat(goals(0), slices.Repeat(goals(1), count)), c.end})
			wantEnd(t, running{"q:-" + c.equations + "," + goal + ".", "q", first(1 + count), c.end})
		}
	}
}

// Here the sides of the equations themselves are seen, as they become greater.
func TestBoundsOfSides(t *testing.T) {
	wantRuns(t, "P10", []running{
		{"q:-" + size40 + ".", "q", goals(0, -1, -1, -1), "Success; 1 0 0 0; ; "},
		{"q:-" + size41 + ".", "q", goals(0, -1, -1, -1), "Large; 1 0 0 0; ; "},
		{"q:-g(V)=X,f(Y,Y,Y)=V,Y=f(Z,Z,Z),Z=f(W,W,W).", "q", goals(0, -1, -1, -1), "Large; 1 0 0 0; ; "},
	})
}

// What nobody sees any more may be as great as it likes.
func TestWhatIsNotSeenIsNotLarge(t *testing.T) {
	wantRuns(t, "P10", []running{
		{"q:-" + size41 + ".", "q", first(9), "Success; 1 0 0 0 0; ; "},
		{"q:-" + size41 + ",W=" + thrice(thrice("a")) + ".", "q,r", goals(0, 1, 1, 1, 1, 1, 0), "Failure; 1 0 0 0 0 0 -2; ; "},
		// not the call, its arguments are: p(X) has a size of 41, p(X,X,X) one of 121
		{"q:-" + size40 + ",p(X). p(X).", "q", first(9), "Success; 1 0 0 0 2; ; "},
		{"q:-" + size40 + ",p(X,X,X). p(X,X,X).", "q", first(9), "Success; 1 0 0 0 2; ; "},
	})
}

// A step that ends the run ends it as it does, and the pool ahead of the first step is not looked at.
func TestOtherEndsGoAheadOfLarge(t *testing.T) {
	wantRuns(t, "P10", []running{
		{"", "X=f(Y,Y),Y=f(Z,Z),f(Z,1)=f(" + thrice(thrice("a")) + ",2)", first(3), "Failure; 0 0 -2; ; "},
		{"", size40 + ",W:=X", goals(0, 0, 0, 0), "Arith; 0 0 0 -2; ; "},
		{"", size40 + ",X:=1", goals(0, 0, 0, 0), "Failure; 0 0 0 -2; ; "},
	})
}

// Terms that are written out whole in a clause.
func TestBoundsOfTermsInClauses(t *testing.T) {
	forty := thrice(thrice(thrice("a")))
	wantRuns(t, "P10", []running{
		{"p:-X=" + forty + ".", "p", first(1), "Open; 1; ; V0=" + forty}, {"p:-X=g(" + forty + ").", "p", first(1), "Large; 1; ; "}, {"p:-" + forty + "=X.", "p", first(1), "Open; 1; ; " + forty + "=V0"}, {"p:-g(" + forty + ")=X.", "p", first(1), "Large; 1; ; "},
		{"p:-q(" + forty + ").", "p", first(1), "Open; 1; ; q(" + forty + ")"}, {"p:-q(g(" + forty + ")).", "p", first(1), "Large; 1; ; "}, {"p:-q(a,g(" + forty + "),b).", "p", first(1), "Large; 1; ; "},
		{"p:-q(" + forty + ",X," + forty + "). q(X,Y,Z):-X==Z|Y=X.", "p", first(9), "Success; 1 2 0; ; "},
		// in heads and tests they are not held against the bound
		{"p(X):-f(X,X)==g(X,X)|true. p(X).", "A=" + strings.Replace(thrice(thrice("B")), "B", "a", 1) + ",B=b,p(A)", first(9), "Success; 0 0 2; f(f(a,b,b),f(b,b,b),f(b,b,b)) b; "},
		{"p(X):-h(X,X,X)==h(X,X,X)|true.", "A=" + thrice(thrice("B")) + ",B=g(c),p(A)", first(9), "Success; 0 0 1 0; " + strings.ReplaceAll(thrice(thrice("B")), "B", "g(c)") + " g(c); "},
	})
}

// chained answers two terms that say, made one, that each variable is thrice the next one; neither is greater than the other.
func chained(levels int) (string, string) {
	left, right := "a", "a"
	for i := levels - 1; i >= 0; i-- {
		x, y, z := string(rune('A'+2*i)), string(rune('B'+2*i)), string(rune('C'+2*i))
		left = "f(" + x + "," + thrice(z) + "," + left + ")"
		right = "f(" + thrice(y) + "," + y + "," + right + ")"
	}
	return left, right
}

// Small texts, and terms of half a million in one step.
func TestTermsThatBecomeGreat(t *testing.T) {
	left, right := chained(6)
	equation := left + "=" + right
	wantRuns(t, "P10", []running{
		{"p:-" + equation + ".", "p", first(2), "Success; 1 0; ; "},
		{"p(A):-" + equation + ".", "p(X)", first(2), "Large; 1 0; ; "},
		{"p(A):-" + equation + ".", "X=Y,p(Y)", first(3), "Large; 0 1 0; ; "},
		{"p:-" + equation + ",q(A).", "p", first(2), "Large; 1 0; ; "},
		{"p:-" + equation + ",a=A.", "p", first(2), "Large; 1 0; ; "},
		{"p:-" + equation + ",X:=A.", "p", first(2), "Large; 1 0; ; "},
		{"p:-" + equation + ",q(M).", "p", first(2), "Open; 1 0; ; q(V0)"},
		{"p:-" + equation + ",q(J).", "p", first(2), "Open; 1 0; ; q(" + thrice(thrice(thrice("V0"))) + ")"},
		{"p:-" + equation + ",q(I).", "p", first(2), "Large; 1 0; ; "},
		{"p:-M=A," + equation + ".", "p", goals(0, 1), "Large; 1 0; ; "},
		// what stands within itself, many steps down
		{"p:-M=A," + equation + ".", "p", goals(0, 0, 0), "Failure; 1 0 -2; ; "},
	})
	left, right = chained(3)
	wantRuns(t, "P10", []running{{"", left + "=" + right, first(1), "Large; 0; ; "}})
}

// A term that becomes three times as great every other step, but of which the pool has the least part alone.
func TestGreatTermsThatNobodySees(t *testing.T) {
	const program = "q:-p(X). p(X):-X=f(Y,Y,Y),p(Y)."
	wantRuns(t, "P10", []running{
		{program, "q", first(100), "Open; 1 " + times(49, "2 0") + " 2; ; V0=f(V1,V1,V1) p(V1)"},
		{program, "p(X)", first(100), "Large; 2 0 2 0 2 0 2 0; ; "},
		{program, "q,p(X)", goals(0, 1, 1, 1, 1, 1, 1, 1, 1, 1, 1, 0), "Open; 1 2 0 2 0 2 0 2 0 2 0 2; V0; p(V1) V0=f(V2,V2,V2) p(V2)"},
	})
}
