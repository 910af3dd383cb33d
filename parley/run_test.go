package parley_test

import (
	"fmt"
	"math"
	"slices"
	"strings"
	"testing"

	"parley/api"
	"parley/parley"
)

var ends = []string{"None", "Success", "Deadlock", "Open", "Failure", "Arith", "Large"}

// resultText writes a result in one line: how it ended; the log; the values; the goals, with a `~` behind those that wait.
func resultText(r api.Result) string {
	var log, goals []string
	for _, entry := range r.Log {
		log = append(log, fmt.Sprint(entry))
	}
	for i, goal := range r.Goals {
		if i < len(r.Waits) && r.Waits[i] {
			goal += "~"
		}
		goals = append(goals, goal)
	}
	return fmt.Sprintf("%s; %s; %s; %s", ends[r.End], strings.Join(log, " "), strings.Join(r.Values, " "), strings.Join(goals, " "))
}

// first is so many picks of the first ready goal, its first clause first.
func first(n int) []api.Pick { return make([]api.Pick, n) }

// goals is picks of these ready goals, the first clause first.
func goals(numbers ...int) []api.Pick {
	var script []api.Pick
	for _, g := range numbers {
		script = append(script, api.Pick{G: g})
	}
	return script
}

// clauses is picks of the first ready goal, these clauses first.
func clauses(numbers ...int) []api.Pick {
	var script []api.Pick
	for _, c := range numbers {
		script = append(script, api.Pick{C: c})
	}
	return script
}

type running struct {
	program, query string
	script         []api.Pick
	want           string
}

func wantRun(t *testing.T, promise string, c running) {
	t.Helper()
	r, errno := parley.Run(c.program, c.query, c.script)
	if got := resultText(r); got != c.want || errno != api.OK || len(r.Waits) != len(r.Goals) {
		t.Errorf("%s: Run(%q, %q, %v) = %s (%d), want %s", promise, c.program, c.query, c.script, got, errno, c.want)
	}
}

func wantRuns(t *testing.T, promise string, cases []running) {
	t.Helper()
	for _, c := range cases {
		wantRun(t, promise, c)
	}
}

// Lists behind one another; the greater one of two; one list of two, as they come.
const (
	appends = "app(n,Y,Z):-Z=Y. app(c(H,X),Y,Z):-Z=c(H,W),app(X,Y,W)."
	greater = "max(X,Y,Z):-X<Y|Z=Y. max(X,Y,Z):-Y=<X|Z=X."
	merges  = "m(n,Y,Z):-Z=Y. m(X,n,Z):-Z=X. m(c(H,X),Y,Z):-Z=c(H,W),m(X,Y,W). m(X,c(H,Y),Z):-Z=c(H,W),m(X,Y,W)."
)

func TestTheEndsOfARun(t *testing.T) {
	wantRuns(t, "P8", []running{
		{"", "true", nil, "Open; ; ; true"},
		{"", "true", first(1), "Success; 0; ; "},
		{"", "true", first(100), "Success; 0; ; "},
		{"", "true,true", first(1), "Open; 0; ; true"},
		{"", "X=Y,p(X)", nil, "Open; ; V0 V1; V0=V1 p(V0)"},
		{"p(a).", "p(X)", first(1), "Deadlock; -1; V0; p(V0)~"},
		{"p(a).", "p(X)", first(100), "Deadlock; -1; V0; p(V0)~"},
		{"p(a).", "p(X),true", goals(0), "Open; -1; V0; p(V0)~ true"},
		{"p(a).", "p(X),true", goals(0, 0), "Deadlock; -1 0; V0; p(V0)~"},
		{"p(a).", "p(b)", first(1), "Failure; -2; ; "},
		{"p(a).", "true,p(b),true", first(9), "Failure; 0 -2; ; "},
		{"", "a=b", first(9), "Failure; -2; ; "},
		{"", "X=a,Y:=X", first(9), "Arith; 0 -2; ; "},
		{"p:-p,p.", "p", first(99), "Large; " + strings.TrimSpace(strings.Repeat("1 ", 24)) + "; ; "},
	})
}

// The end is looked for ahead of the pick, so also where the script is at its end.
func TestTheScriptIsAskedLast(t *testing.T) {
	wantRuns(t, "P8", []running{
		{"p.", "p", first(1), "Success; 1; ; "},
		{"p(a).", "p(X),p(Y)", first(2), "Deadlock; -1 -1; V0 V1; p(V0)~ p(V1)~"},
		{"", "X:=Y", first(1), "Deadlock; -1; V0 V1; V0:=V1~"},
	})
}

func TestPicksOfGoals(t *testing.T) {
	const query = "X=a,Y=b,Z=c"
	for g, want := range map[int]string{
		0: "Open; 0; a V0 V1; V0=b V1=c", 1: "Open; 0; V0 b V1; V0=a V1=c", 2: "Open; 0; V0 V1 c; V0=a V1=b",
	} {
		for _, pick := range []int{g, g + 3, g + 3000, g - 3, g - 3000} {
			wantRun(t, "P8", running{"", query, goals(pick), want})
		}
	}
	wantRuns(t, "P8", []running{
		{"", query, goals(-1), "Open; 0; V0 V1 c; V0=a V1=b"},
		{"", query, goals(-2), "Open; 0; V0 b V1; V0=a V1=c"},
		{"", query, goals(-4), "Open; 0; V0 V1 c; V0=a V1=b"},
		{"", "X=a,Y=b", goals(math.MaxInt), "Open; 0; V0 b; V0=a"},
		{"", "X=a,Y=b", goals(math.MinInt), "Open; 0; a V0; V0=b"},
		{"", "X=a", goals(math.MinInt), "Success; 0; a; "},
		{"", query, goals(math.MinInt + 1), "Open; 0; V0 V1 c; V0=a V1=b"},
		{"", query, goals(2, 1, 0), "Success; 0 0 0; a b c; "},
		{"", query, goals(1, -1, 7), "Success; 0 0 0; a b c; "},
	})
}

// The number is that among the ready goals; those that wait are passed over.
func TestPicksPassOverGoalsThatWait(t *testing.T) {
	const program = "p(a)."
	wantRuns(t, "P8", []running{
		{program, "p(X),Y=a,Z=b", goals(0, 0), "Open; -1 0; V0 a V1; p(V0)~ V1=b"},
		{program, "p(X),Y=a,Z=b", goals(0, 1), "Open; -1 0; V0 V1 b; p(V0)~ V1=a"},
		{program, "p(X),Y=a,Z=b", goals(0, 2), "Open; -1 0; V0 a V1; p(V0)~ V1=b"},
		{program, "p(X),Y=a,Z=b", goals(0, -1), "Open; -1 0; V0 V1 b; p(V0)~ V1=a"},
		{program, "Y=a,p(X),Z=b", goals(1, 1), "Open; -1 0; V0 V1 b; V0=a p(V1)~"},
		{program, "Y=a,Z=b,p(X)", goals(2, 2), "Open; -1 0; a V0 V1; V0=b p(V1)~"},
		{program, "p(X),p(Y),Z=b", goals(0, 0, 0), "Deadlock; -1 -1 0; V0 V1 b; p(V0)~ p(V1)~"},
	})
}

func TestPicksOfClauses(t *testing.T) {
	const program = "p(a). q. p(X). q(Y). p(X):-true."
	for c, number := range map[int]int{0: 1, 1: 3, 2: 5} {
		for _, pick := range []int{c, c + 3, c + 3000, c - 3, c - 3000} {
			r, _ := parley.Run(program, "p(a)", clauses(pick))
			if !slices.Equal(r.Log, []int{number}) {
				t.Errorf("P8: pick %d: %v, want clause %d", pick, r.Log, number)
			}
		}
	}
	const two = "p(1):-X=a. p(Y):-X=b."
	wantRuns(t, "P8", []running{
		{two, "p(1)", clauses(math.MaxInt), "Open; 2; ; V0=b"},
		{two, "p(1)", clauses(math.MinInt), "Open; 1; ; V0=a"},
		{two, "p(1)", clauses(math.MinInt + 1), "Open; 2; ; V0=b"},
		{"p.", "p", clauses(math.MinInt), "Success; 1; ; "},
	})
}

// Those that say No or Wait are passed over, behind the last one comes the first, and the first that says Yes is taken.
func TestClausesAreLookedAtInARound(t *testing.T) {
	const program = "p(a). p(b). p(X). p(a). p(Y)."
	wantRuns(t, "P8", []running{
		{program, "p(a)", clauses(0), "Success; 1; ; "}, {program, "p(a)", clauses(1), "Success; 3; ; "}, {program, "p(a)", clauses(3), "Success; 4; ; "}, {program, "p(a)", clauses(4), "Success; 5; ; "},
		{program, "p(Z)", clauses(0), "Success; 3; V0; "}, {program, "p(Z)", clauses(3), "Success; 5; V0; "}, {program, "p(Z)", clauses(-1), "Success; 5; V0; "},
		{"p(b). p(X). p(a).", "p(a)", clauses(0), "Success; 2; ; "}, {"p(X). p(b). p(c).", "p(a)", clauses(1), "Success; 1; ; "}, {"p(b). p(a). p(c).", "p(a)", clauses(2), "Success; 2; ; "},
		{"p(b). p(c). p(d).", "p(a)", clauses(2), "Failure; -2; ; "},
	})
}

// A goal's clauses are those with its name and its number of arguments.
func TestWhichClausesAreAGoals(t *testing.T) {
	const program = "p. p(X). p(X,Y). p(X,Y,Z). q(X)."
	wantRuns(t, "P8", []running{
		{program, "p", clauses(7), "Success; 1; ; "}, {program, "p(a)", clauses(7), "Success; 2; ; "}, {program, "p(a,b)", clauses(-7), "Success; 3; ; "}, {program, "p(a,b,c)", clauses(1), "Success; 4; ; "}, {program, "q(a)", clauses(0), "Success; 5; ; "},
		{program, "q", first(1), "Failure; -2; ; "}, {program, "q(a,b)", first(1), "Failure; -2; ; "}, {program, "pp", first(1), "Failure; -2; ; "}, {"", "p(X)", first(1), "Failure; -2; ; "},
		// those of a test's name and those of true, but for true alone
		{"int(X).", "int(a)", first(1), "Success; 1; ; "}, {"", "int(1)", first(1), "Failure; -2; ; "}, {"int(X):-int(X)|Y=X.", "int(Z),Z:=2", first(4), "Success; -1 0 1 0; 2; "},
		{"true(X).", "true(a)", first(1), "Success; 1; ; "}, {"", "true(a)", first(1), "Failure; -2; ; "}, {"true:-a=b.", "true", first(2), "Success; 0; ; "},
	})
}

func TestTrueLeavesThePool(t *testing.T) {
	wantRuns(t, "P8", []running{
		{"", "true,X=a,true", goals(0), "Open; 0; V0; V0=a true"},
		{"", "true,X=a,true", goals(2), "Open; 0; V0; true V0=a"},
		{"", "true,X=a,true", first(3), "Success; 0 0 0; a; "},
	})
}

func TestEquations(t *testing.T) {
	wantRuns(t, "P8", []running{
		{"", "X=a", first(1), "Success; 0; a; "}, {"", "a=X", first(1), "Success; 0; a; "}, {"", "a=a", first(1), "Success; 0; ; "}, {"", "07=7", first(1), "Success; 0; ; "}, {"", "X=X", first(1), "Success; 0; V0; "}, {"", "f(X,b)=f(a,Y)", first(1), "Success; 0; a b; "}, {"", "f(X,g(X))=f(a,Y)", first(1), "Success; 0; a g(a); "}, {"", "f(X,Y)=f(Y,a)", first(1), "Success; 0; a a; "}, {"", "X=f(Y,Y)", first(1), "Success; 0; f(V0,V0) V0; "},
		{"", "a=b", first(1), "Failure; -2; ; "}, {"", "1=2", first(1), "Failure; -2; ; "}, {"", "1=a", first(1), "Failure; -2; ; "}, {"", "f(X)=f(X,Y)", first(1), "Failure; -2; ; "}, {"", "f(X)=g(X)", first(1), "Failure; -2; ; "}, {"", "f(X,X)=f(a,b)", first(1), "Failure; -2; ; "}, {"", "f=f(X)", first(1), "Failure; -2; ; "},
		// the values that variables have are seen, and the variables are the same ones wherever they stand
		{"", "X=a,X=a", first(2), "Success; 0 0; a; "}, {"", "X=a,X=b", first(2), "Failure; 0 -2; ; "}, {"", "X=Y,X=a", first(2), "Success; 0 0; a a; "}, {"", "X=Y,Y=a", first(2), "Success; 0 0; a a; "}, {"", "X=Y,Y=Z,X=a,Z=b", first(4), "Failure; 0 0 0 -2; ; "}, {"", "X=f(Y),Y=b", first(2), "Success; 0 0; f(b) b; "}, {"", "X=f(Y),X=f(a)", first(2), "Success; 0 0; f(a) a; "}, {"", "X=Y,Y=X", first(2), "Success; 0 0; V0 V0; "},
		// terms are finite
		{"", "X=f(X)", first(1), "Failure; -2; ; "}, {"", "f(X)=X", first(1), "Failure; -2; ; "}, {"", "X=f(Y),Y=X", first(2), "Failure; 0 -2; ; "}, {"", "X=f(Y),Y=g(X)", first(2), "Failure; 0 -2; ; "}, {"", "f(X,Y)=f(g(Y),h(X))", first(1), "Failure; -2; ; "}, {"", "X=Y,X=f(Y)", first(2), "Failure; 0 -2; ; "}, {"", "X=f(X,Y),Y=a", goals(1, 0), "Failure; 0 -2; ; "},
	})
}

// The one that was made later gets a value; who waits for the earlier one alone waits on.
func TestWhichOfTwoVariablesGetsAValue(t *testing.T) {
	const program = "p(a). q(X,X)."
	wantRuns(t, "P8", []running{
		{program, "p(X),X=Y", first(2), "Deadlock; -1 0; V0 V0; p(V0)~"},
		{program, "p(X),Y=X", first(2), "Deadlock; -1 0; V0 V0; p(V0)~"},
		{program, "Y=X,p(X)", goals(1, 0, 0), "Deadlock; -1 0 -1; V0 V0; p(V0)~"},
		{program, "Y=X,p(X)", goals(1, 0), "Open; -1 0; V0 V0; p(V0)"},
		{program, "X=Y,p(Y)", goals(1, 0), "Open; -1 0; V0 V0; p(V0)"},
		{program, "X=Y,p(X)", goals(1, 0), "Deadlock; -1 0; V0 V0; p(V0)~"},
		// it is the order of the making that counts, not that of the sides, and made ones stay earlier than ones made behind them
		{program, "f(Z,Y,X)=W,p(Y),Y=Z", goals(1, 1), "Open; -1 0; V0 V0 V1 V2; f(V0,V0,V1)=V2 p(V0)"},
		{program, "f(Z,Y,X)=W,p(Z),Y=Z", goals(1, 1), "Open; -1 0; V0 V0 V1 V2; f(V0,V0,V1)=V2 p(V0)~"},
		{"r(X):-p(Y),Y=X. p(a).", "r(Z)", first(3), "Open; 1 -1 0; V0; p(V0)"},
		{"r(X):-p(X),Y=X. p(a).", "r(Z)", first(3), "Deadlock; 1 -1 0; V0; p(V0)~"},
		{"r(X):-p(X),X=Y. p(a).", "r(Z)", first(3), "Deadlock; 1 -1 0; V0; p(V0)~"},
		// of three the first keeps none
		{program, "p(X),p(Y),p(Z),X=Y,Z=Y", goals(0, 0, 0, 0), "Open; -1 -1 -1 0; V0 V0 V1; p(V0)~ p(V0) p(V1)~ V1=V0"},
		{program, "p(X),p(Y),p(Z),X=Y,Z=Y", goals(0, 0, 0, 0, 1), "Open; -1 -1 -1 0 0; V0 V0 V0; p(V0)~ p(V0) p(V0)"},
		{program, "p(X),p(Y),p(Z),Z=Y,X=Y", goals(0, 0, 0, 0), "Open; -1 -1 -1 0; V0 V1 V1; p(V0)~ p(V1)~ p(V1) V0=V1"},
		{program, "p(X),p(Y),p(Z),Z=Y,X=Y", goals(0, 0, 0, 0, 1), "Open; -1 -1 -1 0 0; V0 V0 V0; p(V0)~ p(V0) p(V0)"},
		// within terms
		{program, "p(X),p(Y),f(X,b)=f(Y,b)", goals(0, 0, 0), "Open; -1 -1 0; V0 V0; p(V0)~ p(V0)"},
		{program, "p(X),p(Y),f(Y,b)=f(X,b)", goals(0, 0, 0), "Open; -1 -1 0; V0 V0; p(V0)~ p(V0)"},
		// one with a value in the end has one
		{program, "p(X),p(Y),f(X,Y)=f(Y,a)", goals(0, 0, 0), "Open; -1 -1 0; a a; p(a) p(a)"},
		// a goal that waits for both is ready
		{program, "q(X,Y),Y=X", goals(0, 0), "Open; -1 0; V0 V0; q(V0,V0)"},
	})
}

// New variables are made in the order in which they first stand in the clause, those of the tests ahead of those of the goals.
func TestTheOrderOfMaking(t *testing.T) {
	wantRuns(t, "P8", []running{
		// A ahead of B: B gets a value
		{"r:-w(A),w(B),B=A. w(a).", "r", first(4), "Open; 1 -1 -1 0; ; w(V0)~ w(V0)"},
		{"r:-w(B),w(A),B=A. w(a).", "r", first(4), "Open; 1 -1 -1 0; ; w(V0)~ w(V0)"},
		{"r:-f(B,A)=C,w(A),w(B),B=A. w(a).", "r", goals(0, 1, 1, 1), "Open; 1 -1 -1 0; ; f(V0,V0)=V1 w(V0) w(V0)~"},
		{"r:-A==A|w(B),w(A),B=A. w(a).", "r", first(4), "Open; 1 -1 -1 0; ; w(V0) w(V0)~"},
		{"r:-f(B,A)==f(B,A)|w(A),w(B),B=A. w(a).", "r", first(4), "Open; 1 -1 -1 0; ; w(V0) w(V0)~"},
		// those of an earlier commitment ahead of those of a later one
		{"r(X):-w(X),s(X). s(X):-w(Y),X=Y. w(a).", "r(Z)", first(5), "Open; 1 -1 2 -1 0; V0; w(V0)~ w(V0)"},
		{"r:-s(X),w(X). s(X):-w(Y),Y=X. w(a).", "r", first(4), "Open; 1 2 -1 -1; ; w(V0)~ w(V1)~ V1=V0"},
		{"r:-s(X),w(X). s(X):-w(Y),Y=X. w(a).", "r", first(5), "Open; 1 2 -1 -1 0; ; w(V0)~ w(V0)"},
	})
}

func TestAssignments(t *testing.T) {
	wantRuns(t, "P8", []running{
		{"", "X:=3", first(1), "Success; 0; 3; "}, {"", "X:=003", first(1), "Success; 0; 3; "}, {"", "X:=1+2", first(1), "Success; 0; 3; "}, {"", "X:=7-2", first(1), "Success; 0; 5; "}, {"", "X:=2-7", first(1), "Success; 0; -5; "}, {"", "X:=6*7", first(1), "Success; 0; 42; "}, {"", "X:=0*7", first(1), "Success; 0; 0; "}, {"", "X:=0-0", first(1), "Success; 0; 0; "},
		{"", "Y=4,X:=Y", first(2), "Success; 0 0; 4 4; "}, {"", "Y=4,X:=Y*Y", first(2), "Success; 0 0; 4 16; "}, {"", "Y=4,X:=Y-1", first(2), "Success; 0 0; 4 3; "}, {"", "Y=4,X:=1-Y", first(2), "Success; 0 0; 4 -3; "}, {"", "Y=Z,Z=4,X:=Y+Z", first(3), "Success; 0 0 0; 4 4 8; "}, {"", "X:=0-3,Y:=X*X,Z:=X*4,W:=X+1", first(4), "Success; 0 0 0 0; -3 9 -12 -2; "}, {"", "X:=0-3,Y:=X-X,Z:=X-4", first(3), "Success; 0 0 0; -3 0 -7; "},
		// it is made one with what V has
		{"", "X=3,X:=1+2", first(2), "Success; 0 0; 3; "}, {"", "X=4,X:=1+2", first(2), "Failure; 0 -2; ; "}, {"", "X=a,X:=1+2", first(2), "Failure; 0 -2; ; "}, {"", "X=f(Y),X:=1", first(2), "Failure; 0 -2; ; "}, {"", "X=Y,X:=1", first(2), "Success; 0 0; 1 1; "}, {"", "X=1,X:=X", first(2), "Success; 0 0; 1; "}, {"", "X=1,X:=X+1", first(2), "Failure; 0 -2; ; "},
	})
}

func TestAssignmentsWait(t *testing.T) {
	wantRuns(t, "P8", []running{
		{"", "X:=Y", first(1), "Deadlock; -1; V0 V1; V0:=V1~"}, {"", "X:=X", first(1), "Deadlock; -1; V0; V0:=V0~"}, {"", "X:=Y+1", first(1), "Deadlock; -1; V0 V1; V0:=V1+1~"}, {"", "X:=1-Y", first(1), "Deadlock; -1; V0 V1; V0:=1-V1~"}, {"", "X:=Y*Z", first(1), "Deadlock; -1; V0 V1 V2; V0:=V1*V2~"}, {"", "X:=Y*Y", first(1), "Deadlock; -1; V0 V1; V0:=V1*V1~"},
		// for all that have no value: one of them makes it ready
		{"", "X:=Y+Z,Y=1", goals(0, 0), "Open; -1 0; V0 1 V1; V0:=1+V1"}, {"", "X:=Y+Z,Z=1", goals(0, 0), "Open; -1 0; V0 V1 1; V0:=V1+1"}, {"", "X:=Y+Z,Y=1", goals(0, 0, 0), "Deadlock; -1 0 -1; V0 1 V1; V0:=1+V1~"}, {"", "X:=Y+Z,X=1", goals(0, 0), "Deadlock; -1 0; 1 V0 V1; 1:=V0+V1~"}, {"", "Y=1,X:=Y+Z,Z=2", goals(0, 0, 0, 0), "Success; 0 -1 0 0; 1 3 2; "},
		// not for V
		{"", "X:=Y,X=1", goals(0, 0), "Deadlock; -1 0; 1 V0; 1:=V0~"},
		// where the other one is no number it waits all the same
		{"", "Y=a,X:=Y+Z", first(2), "Deadlock; 0 -1; a V0 V1; V0:=a+V1~"}, {"", "Y=a,X:=Z*Y", first(2), "Deadlock; 0 -1; a V0 V1; V0:=V1*a~"}, {"", "Y=a,X:=Z*Y,Z=1", first(4), "Arith; 0 -1 0 -2; ; "},
		// it waits for the variables themselves, of which the later one gets a value
		{"", "Y=Z,X:=Y", goals(1, 0), "Deadlock; -1 0; V0 V0 V1; V1:=V0~"}, {"", "Y=Z,X:=Z", goals(1, 0), "Open; -1 0; V0 V0 V1; V1:=V0"},
	})
}

func TestWhatCannotBeCalculated(t *testing.T) {
	for _, value := range []string{"a", "f(1)", "f(Z)", "true"} {
		for _, goal := range []string{"X:=Y", "X:=Y+1", "X:=1-Y", "X:=Y*0", "X:=0*Y", "X:=Y-Y", "Y:=Y"} {
			wantRun(t, "P8", running{"", "Y=" + value + "," + goal, first(2), "Arith; 0 -2; ; "})
		}
	}
	// ahead of whether V can be made one with it
	wantRun(t, "P8", running{"", "Y=a,X=b,X:=Y", first(3), "Arith; 0 0 -2; ; "})
}

func TestBoundsOfResults(t *testing.T) {
	const great = "X:=100000*10000,"
	wantRuns(t, "P8", []running{
		{"", "X:=100000*10000", first(1), "Success; 0; 1000000000; "},
		{"", great + "Y:=X+0", first(2), "Success; 0 0; 1000000000 1000000000; "},
		{"", great + "Y:=X", first(2), "Success; 0 0; 1000000000 1000000000; "},
		{"", great + "Y:=X+1", first(2), "Arith; 0 -2; ; "},
		{"", great + "Y:=1+X", first(2), "Arith; 0 -2; ; "},
		{"", great + "Y:=X-1,Z:=Y+1", first(3), "Success; 0 0 0; 1000000000 999999999 1000000000; "},
		{"", great + "Y:=X-1,Z:=Y+2", first(3), "Arith; 0 0 -2; ; "},
		{"", great + "Y:=0-X", first(2), "Success; 0 0; 1000000000 -1000000000; "},
		{"", great + "Y:=0-X,Z:=Y-1", first(3), "Arith; 0 0 -2; ; "},
		{"", great + "Y:=0-X,Z:=Y-0", first(3), "Success; 0 0 0; 1000000000 -1000000000 -1000000000; "},
		{"", great + "Y:=0-X,Z:=Y+X", first(3), "Success; 0 0 0; 1000000000 -1000000000 0; "},
		{"", great + "Y:=0-X,Z:=Y-X", first(3), "Arith; 0 0 -2; ; "},
		{"", great + "Y:=0-X,Z:=X-Y", first(3), "Arith; 0 0 -2; ; "},
		{"", great + "Y:=0-1,Z:=X*Y", first(3), "Success; 0 0 0; 1000000000 -1 -1000000000; "},
		{"", great + "Y:=X*X", first(2), "Arith; 0 -2; ; "},
		{"", great + "Y:=0-X,Z:=X*Y", first(3), "Arith; 0 0 -2; ; "},
		{"", great + "Y:=0-X,Z:=Y*Y", first(3), "Arith; 0 0 -2; ; "},
		{"", "X:=999999*999999", first(1), "Arith; -2; ; "},
		{"", "X:=65536*65536", first(1), "Arith; -2; ; "},
		{"", "X:=31623*31623", first(1), "Arith; -2; ; "},
		{"", "X:=31622*31622", first(1), "Success; 0; 999950884; "},
		{"", great + "X:=X+1", first(2), "Arith; 0 -2; ; "},
	})
}

func TestCommitting(t *testing.T) {
	wantRuns(t, "P8", []running{
		{appends, "app(n,Y,Z)", first(1), "Open; 1; V0 V1; V1=V0"},
		{appends, "app(c(1,c(2,n)),c(3,n),Z)", first(6), "Success; 2 0 2 0 1 0; c(1,c(2,c(3,n))); "},
		{appends, "app(X,Y,Z),X=c(1,W)", first(5), "Deadlock; -1 0 2 0 -1; c(1,V0) V1 c(1,V2) V0; app(V0,V1,V2)~"},
		{appends, "app(a,Y,Z)", first(1), "Failure; -2; ; "},
		{appends, "app(c(1),Y,Z)", first(1), "Failure; -2; ; "},
		// its goals join at the end, in their order
		{"p:-q,r. q:-s.", "p,X=a,q", goals(0), "Open; 1; V0; V0=a q q r"},
		{"p:-q,r. q:-s.", "p,X=a,q", goals(0, 1), "Open; 1 2; V0; V0=a q r s"},
		{"p:-q,r. q:-s.", "X=a,p,q", goals(1), "Open; 1; V0; V0=a q q r"},
		{"p.", "p,X=a,q", goals(0), "Open; 1; V0; V0=a q"},
		// with what the head's variables stand for
		{"p(X,f(Y)):-q(Y,X,X).", "p(A,f(g(A,b)))", first(1), "Open; 1; V0; q(g(V0,b),V0,V0)"},
		{"p(X,Y):-Z=f(X,Y),Z:=X*Y.", "p(1,a)", first(1), "Open; 1; ; V0=f(1,a) V0:=1*a"},
		{"p(X,X):-q(X).", "p(f(A),f(A))", first(1), "Open; 1; V0; q(f(V0))"},
		// new variables each time
		{"p:-q(X),p. q(X).", "p", goals(0, 1), "Open; 1 1; ; q(V0) q(V1) p"},
		{"p(X):-q(X,Y).", "p(A),p(A)", first(2), "Open; 1 1; V0; q(V0,V1) q(V0,V2)"},
		{"p(X):-q(X,Y).", "p(Y)", first(1), "Open; 1; V0; q(V0,V1)"},
	})
}

// A goal does not give its variables values to match a head; it waits for them.
func TestCallsWait(t *testing.T) {
	wantRuns(t, "P8", []running{
		{"p(a).", "p(X),X=a", first(3), "Success; -1 0 1; a; "}, {"p(a).", "p(X),X=b", first(3), "Failure; -1 0 -2; ; "}, {"p(f(Y)).", "p(X),X=f(Z)", first(3), "Success; -1 0 1; f(V0) V0; "},
		{"p(f(a)).", "p(X),X=f(Z),Z=a", first(5), "Success; -1 0 -1 0 1; f(a) a; "}, {"p(f(a)).", "p(X),X=f(Z),Z=a", goals(0, 1, 0, 0), "Success; -1 0 0 1; f(a) a; "},
		{"p(X,X).", "p(A,B),A=a,B=a", first(5), "Success; -1 0 -1 0 1; a a; "}, {"p(X,X).", "p(A,B),A=a,B=b", first(5), "Failure; -1 0 -1 0 -2; ; "}, {"p(X,X).", "p(A,B),A=B", first(3), "Success; -1 0 1; V0 V0; "},
		// for all for which one of the clauses waits: that of the first, of the second, of both
		{"p(a,X). p(X,a).", "p(A,B),A=b", goals(0, 0), "Open; -1 0; b V0; p(b,V0)"}, {"p(a,X). p(X,a).", "p(A,B),B=b", goals(0, 0), "Open; -1 0; V0 b; p(V0,b)"}, {"p(a,b).", "p(A,B),B=b", goals(0, 0), "Open; -1 0; V0 b; p(V0,b)"}, {"p(a,b).", "p(A,B),A=a", goals(0, 0), "Open; -1 0; a V0; p(a,V0)"},
		{"p(a,X). p(b,X).", "p(A,B),B=b", goals(0, 0), "Deadlock; -1 0; V0 b; p(V0,b)~"},
		// a clause that says No waits for nothing, whatever it has met ahead of that or behind
		{"p(a,b,X). p(X,Y,a).", "p(A,c,C),A=a", goals(0, 0), "Deadlock; -1 0; a V0; p(a,c,V0)~"}, {"p(b,a,X). p(X,Y,a).", "p(c,B,C),B=a", goals(0, 0), "Deadlock; -1 0; a V0; p(c,a,V0)~"},
		// and where it waits it goes no deeper
		{"p(f(X),X,b).", "p(A,B,b),B=a", goals(0, 0), "Deadlock; -1 0; V0 a; p(V0,a,b)~"},
		// No of the one and Wait of the other
		{"p(a,b). p(b,c).", "p(a,X)", first(1), "Deadlock; -1; V0; p(a,V0)~"}, {"p(a,b). p(b,c).", "p(c,X)", first(1), "Failure; -2; ; "},
		// what it waited for at last counts, not what it waited for ahead of that
		{"p(a,b).", "p(X,Y),X=a,q", goals(0, 0, 0), "Open; -1 0 -1; a V0; p(a,V0)~ q"}, {"p(a,b,c).", "p(X,Y,Z),X=a,Z=c", first(4), "Open; -1 0 -1 0; a V0 c; p(a,V0,c)"},
		// a goal that is ready stays so till it goes on
		{"p(a).", "p(X),X=a,true,true", goals(0, 0, 1, 1), "Open; -1 0 0 0; a; p(a)"},
	})
}

func TestMerging(t *testing.T) {
	wantRuns(t, "P8", []running{
		{merges, "m(c(1,X),c(2,Y),Z)", clauses(2), "Open; 3; V0 V1 V2; V2=c(1,V3) m(V0,c(2,V1),V3)"},
		{merges, "m(c(1,X),c(2,Y),Z)", clauses(3), "Open; 4; V0 V1 V2; V2=c(2,V3) m(c(1,V0),V1,V3)"},
		{merges, "m(X,c(2,Y),Z)", first(3), "Deadlock; 4 0 -1; V0 V1 c(2,V2); m(V0,V1,V2)~"},
		{merges, "m(c(1,n),c(2,n),Z)", []api.Pick{{C: 3}, {}, {C: 1}, {}}, "Success; 4 0 2 0; c(2,c(1,n)); "},
		{merges, "m(c(1,n),c(2,n),Z)", []api.Pick{{C: 2}, {}, {C: 0}, {}}, "Success; 3 0 1 0; c(1,c(2,n)); "},
	})
}
