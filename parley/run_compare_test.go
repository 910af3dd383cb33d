package parley_test

import (
	"math"
	"math/rand"
	"reflect"
	"testing"

	"parley/api"
	"parley/parley"
)

// alikeResults takes an empty list for no list.
func alikeResults(a, b api.Result) bool {
	return resultText(a) == resultText(b) && len(a.Waits) == len(b.Waits)
}

// compareRuns holds Run against the other way of answering; it tells what Run answered.
func compareRuns(t *testing.T, program, query string, script []api.Pick) (api.Result, api.Errno) {
	t.Helper()
	got, errno := parley.Run(program, query, script)
	want, wantErrno := oracleRun(program, query, script)
	if errno != wantErrno || !alikeResults(got, want) {
		t.Errorf("P7 to P11: Run(%q, %q, %v) = %s, %d, want %s, %d", program, query, script, resultText(got), errno, resultText(want), wantErrno)
	}
	if errno != api.OK && !reflect.DeepEqual(got, api.Result{}) {
		t.Errorf("P1: Run(%q, %q, ..) = %+v, %d", program, query, got, errno)
	}
	return got, errno
}

func randomScript(random *rand.Rand, most int) []api.Pick {
	script := make([]api.Pick, random.Intn(most+1))
	for i := range script {
		script[i] = api.Pick{G: random.Intn(21) - 10, C: random.Intn(21) - 10}
		if random.Intn(20) == 0 {
			script[i] = api.Pick{G: math.MinInt + random.Intn(9), C: math.MaxInt - random.Intn(9)}
		}
	}
	return script
}

// taste is how often what stands in a random program.
type taste struct {
	tests  int // of ten clauses, so many have tests
	heads  int // of ten terms in heads, so many are variables
	calls  int // of ten goals, so many are calls
	deep   int // of the terms in goals
	values int // of ten leaves, so many are no variables
}

var tastes = []taste{{5, 5, 3, 3, 4}, {8, 9, 4, 1, 5}, {0, 10, 6, 2, 1}, {3, 8, 2, 4, 1}, {9, 10, 5, 1, 8}, {2, 3, 5, 2, 6}}

// words makes random programs and queries; the calls have 0, 1 and 2 arguments.
type words struct {
	random *rand.Rand
	taste  taste
}

func (w words) one(of ...string) string { return of[w.random.Intn(len(of))] }

func (w words) chance(ofTen int) bool { return w.random.Intn(10) < ofTen }

func (w words) variable() string { return w.one("X", "Y", "Z", "X1") }

func (w words) term(deep int) string {
	switch {
	case deep > 0 && w.chance(3):
		return w.one("f(", "h(") + w.term(deep-1) + ")"
	case deep > 0 && w.chance(3):
		return "f(" + w.term(deep-1) + "," + w.term(deep-1) + ")"
	case w.chance(w.taste.values):
		return w.one("a", "b", "0", "1", "1", "2", "7")
	}
	return w.variable()
}

func (w words) part() string { return w.term(w.random.Intn(w.taste.deep + 1)) }

func (w words) call(part func() string) string {
	switch w.random.Intn(6) {
	case 0:
		return "p"
	case 1, 2:
		return "q(" + part() + ")"
	}
	return "r(" + part() + "," + part() + ")"
}

func (w words) operand() string {
	return w.one(w.variable(), w.variable(), "0", "1", "5", "999999")
}

func (w words) goal() string {
	if w.chance(w.taste.calls) {
		return w.call(w.part)
	}
	switch w.random.Intn(6) {
	case 0:
		return w.variable() + ":=" + w.operand() + w.one("+", "-", "*") + w.operand()
	case 1:
		return w.one("true", w.variable()+":="+w.operand())
	case 2:
		return w.part() + "=" + w.part()
	}
	return w.variable() + "=" + w.part()
}

func (w words) test() string {
	if w.chance(2) {
		return "int(" + w.term(1) + ")"
	}
	return w.term(1) + w.one("<", "=<", "==", "\\=", "==", "\\=") + w.term(1)
}

// list ends where the text would become too long.
func (w words) list(most int, part func() string) string {
	text := part()
	for i := w.random.Intn(most); i > 0; i-- {
		if next := text + w.one(",", " , ", ",\n") + part(); len(next) <= api.MaxQuery {
			text = next
		}
	}
	return text
}

func (w words) pattern() string {
	if w.chance(w.taste.heads) {
		return w.variable()
	}
	return w.term(1)
}

func (w words) clause() string {
	text := w.call(w.pattern)
	if w.chance(2) {
		return text + "."
	}
	text += ":-"
	if w.chance(w.taste.tests) {
		text += w.list(2, w.test) + "|"
	}
	return text + w.list(3, w.goal) + "."
}

func (w words) program() string {
	text := ""
	for i := 2 + w.random.Intn(11); i > 0; i-- {
		if next := text + w.clause() + w.one("", " ", "\n"); len(next) <= api.MaxProgram {
			text = next
		}
	}
	return text
}

func (w words) query() string {
	for {
		if text := w.list(api.MaxParts, w.goal); len(text) <= api.MaxQuery {
			return text
		}
	}
}

// compareRight is for texts that are known to be right: their errors are looked for elsewhere.
func compareRight(t *testing.T, program, query string, script []api.Pick) api.Result {
	t.Helper()
	got, errno := parley.Run(program, query, script)
	if want := oracleRunOf(program, query, script); errno != api.OK || !alikeResults(got, want) {
		t.Errorf("P8 to P11: Run(%q, %q, %v) = %s, %d, want %s", program, query, script, resultText(got), errno, resultText(want))
	}
	return got
}

// tally counts how runs end, and how their steps are logged.
type tally struct{ ends, entries map[int]int }

func newTally() tally { return tally{map[int]int{}, map[int]int{}} }

func (all tally) add(r api.Result) {
	all.ends[r.End]++
	for _, entry := range r.Log {
		all.entries[entry]++
	}
}

func (all tally) wantAtLeast(t *testing.T, least int, clauses int) {
	t.Helper()
	for end := api.Success; end <= api.Large; end++ {
		if all.ends[end] < least {
			t.Errorf("only %d runs ended with %d", all.ends[end], end)
		}
	}
	for entry := -2; entry <= clauses; entry++ {
		if all.entries[entry] < least {
			t.Errorf("only %d steps were logged as %d", all.entries[entry], entry)
		}
	}
}

func TestRandomPrograms(t *testing.T) {
	random := rand.New(rand.NewSource(5))
	all := newTally()
	for i := 0; i < 20000; i++ {
		w := words{random: random, taste: tastes[i%len(tastes)]}
		r := compareRight(t, w.program(), w.query(), randomScript(random, 40))
		if t.Failed() {
			return
		}
		all.add(r)
	}
	all.wantAtLeast(t, 50, 10)
}

// known are programs that do something, and what may be asked of them.
var known = []struct{ program, query string }{
	{appends, "app(X,Y,Z),X=c(1,W),app(Z,X,V),W=n,Y=W"},
	{appends, "app(c(A,B),c(C,n),Z),app(Z,Z,D),B=c(A,n),A=C"},
	{merges, "m(X,Y,Z),X=c(1,A),Y=c(2,B),m(Z,A,W),A=n,B=A"},
	{merges, "m(c(1,c(2,n)),c(3,c(4,n)),Z),m(Z,c(5,Y),W)"},
	{greater + "s(n,M):-M=0. s(c(X,Y),M):-s(Y,N),max(X,N,M).", "s(c(A,c(B,c(3,n))),M),A:=B*B,B:=0-2"},
	{"d(0,X):-X=n. d(N,X):-0<N|M:=N-1,X=c(N,Y),d(M,Y).", "d(N,X),N:=A+B,A=3,B:=A-1"},
	{"d(N,X):-0<N|M:=N-1,X=c(Y,Y),d(M,Y). d(N,X):-N=<0|true.", "d(7,X),X=Y"},
	{"i(X,Y):-X==Y|true. o(X,Y):-X\\=Y|true. k(X):-int(X)|true.", "i(A,B),o(A,C),k(C),A=f(B1),B=f(C),C:=1"},
	{"e(X,Y):-X==Y|true. e(X,Y):-X\\=Y|X=Y.", "e(f(A,B),f(C,D)),A=C,B=a,e(D,B)"},
	{"w(X):-Y<X|true. w(a). w(f(X)):-w(X),w(X).", "w(A),w(B),A=f(B),w(C),B=f(C),C=a"},
	{"f(0,N):-N=1. f(M,N):-0<M|K:=M-1,f(K,L),N:=M*L.", "f(A,X),A:=11+B,B:=4-C,f(2,C)"},
	{greater, "max(X,Y,Z),max(Z,W,V),Y=2,W=f(Y),X=1"},
	{"t(X):-X=f(Y,Z),t(Y),t(Z). t(X):-true.", "t(X)"},
	{"p(X,X):-q(X). q(a). q(b). q(f(X)):-p(X,Y),X=Y.", "p(A,B),q(B),A=f(C),B=f(D),D=a"},
	{"n(X):-Y==Z|n(X). n(X):-Y==Y|m(Y,X). m(X,Y):-X=Y. m(a,b).", "n(A),m(A,B),n(B)"},
}

func TestRunsOfKnownPrograms(t *testing.T) {
	random := rand.New(rand.NewSource(6))
	all := newTally()
	for i := 0; i < 6000; i++ {
		c := known[i%len(known)]
		r := compareRight(t, c.program, c.query, randomScript(random, 100))
		if t.Failed() {
			return
		}
		all.add(r)
	}
	all.wantAtLeast(t, 50, 4)
}
