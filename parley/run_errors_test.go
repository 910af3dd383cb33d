package parley_test

import (
	"math/rand"
	"reflect"
	"strings"
	"testing"

	"parley/api"
	"parley/parley"
)

func wantNoRun(t *testing.T, program, query string, picks int, errno api.Errno) {
	t.Helper()
	r, got := parley.Run(program, query, first(picks))
	if got != errno || !reflect.DeepEqual(r, api.Result{}) {
		t.Errorf("P7: Run(%.40q, %.100q, %d picks) = %+v, %d, want %d", program, query, picks, r, got, errno)
	}
}

func wantNoQuery(t *testing.T, errno api.Errno, queries ...string) {
	t.Helper()
	for _, query := range queries {
		wantNoRun(t, "", query, 0, errno)
		wantNoRun(t, "p. q:-true.", query, 3, errno)
	}
}

func TestTextsThatAreNoQueries(t *testing.T) {
	wantNoQuery(t, api.ErrSyntax,
		"", " ", "\n", ",", "p,", ",p", "p,,q", "p.", ".", "p q", "p:-q", "p|q", "int(X)|q", "X", "1", "X,p", "p,X", "p,1", "(p)", "p()", "p(", "p(a", "p(a,", "p(a,)", "p(a))", "p(a)(b)", "p(q,r)s", "X(a)", "1(a)", "-1", "p+q", "X-1", "?-p",
		"X=", "=X", "X==", "X=Y=Z", "X=Y Z", "X=(a)", "X=-1", "X=1+2", "X=Y,", "p=",
		"X:=", ":=1", "X:=a", "X:=f(Y)", "X:=1+", "X:=1+a", "X:=1+2+3", "X:=1+2*3", "X:=-1", "X:=(1)", "X:=+1", "1:=1", "a:=1", "f(X):=1", "p:=1", "X:=Y=Z", "X:=1/2", "X:=1<2", "X+1:=2",
		"X<1", "1<X", "X=<1", "X==Y", "X\\=Y", "p,X<1", "X=1,X<1", "X<1,p", "int(X),X<1", "int(X)<1", "int(X)==1", "X=1,Y\\=2", "f(X)=<1",
	)
}

func TestBytesThatBeginNoTokenOfAQuery(t *testing.T) {
	wantNoQuery(t, api.ErrSyntax, ";", "p;", "p;q", "_", "p(_)", "p_", "p\t", "\tp", "p\r\n", "\x00", "p\x00", "\xff", "p,\xff", "\u00e9", "p\u00e9", ":", "p:", "X:1", "X: =1", "\\", "p\\", "X\\", "X >1", "[p]", "\"p\"", "p%q", "p(a)\v", "!", "p&q", "X= \\=Y", "X'=1")
}

// A text that is right with each bound met, and one in which it is passed.
func TestBoundsOfQueries(t *testing.T) {
	for _, c := range []struct{ met, passed string }{
		{"p,p,p,p,p,p", "p,p,p,p,p,p,p"}, {"p,X=1,Y:=2,p,X=3,true", "p,X=1,Y:=2,p,X=3,true,p"},
		{"p(a,b,c)", "p(a,b,c,d)"}, {"X=f(a,b,c)", "X=f(a,b,c,d)"}, {"f(a,b,c)=X", "f(a,b,c,d)=X"}, {"p,p(a,f(X,Y,Z))", "p,p(a,f(X,Y,Z,W))"},
		{"X=123456", "X=1234567"}, {"X=000000", "X=0000000"}, {"X:=123456", "X:=1234567"}, {"X:=1+123456", "X:=1+1234567"}, {"p(999999)", "p(9999999)"}, {"123456=X", "1234567=X"},
		{"X=" + nested(api.MaxDeep), "X=" + nested(api.MaxDeep+1)}, {nested(api.MaxDeep) + "=X", nested(api.MaxDeep+1) + "=X"}, {nested(api.MaxDeep), nested(api.MaxDeep + 1)}, {"int(f(f(f(f(f(f(X)))))))", "int(f(f(f(f(f(f(f(X))))))))"}, {"p,p(f(f(f(f(f(f(1)))))))", "p,p(f(f(f(f(f(f(f(1))))))))"},
	} {
		r, errno := parley.Run("", c.met, nil)
		if errno != api.OK || r.End != api.Open || len(r.Goals) == 0 {
			t.Errorf("P7: Run(\"\", %q, nil) = %s, %d", c.met, resultText(r), errno)
		}
		wantNoQuery(t, api.ErrBig, c.passed)
	}
}

func TestLengthOfQueriesAndScripts(t *testing.T) {
	longest := "true" + strings.Repeat(" ", api.MaxQuery-4)
	name := strings.Repeat("p", api.MaxQuery)
	wantRuns(t, "P7", []running{
		{"", longest, first(1), "Success; 0; ; "}, {"", name, nil, "Open; ; ; " + name}, {name + ".", name, first(1), "Success; 1; ; "}, {"", "true", first(api.MaxScript), "Success; 0; ; "}, {"", longest, first(api.MaxScript), "Success; 0; ; "},
		{"p:-p.", "p", first(api.MaxScript), "Open; " + times(api.MaxScript, "1") + "; ; p"},
		{strings.Repeat(" ", api.MaxProgram), "true", first(1), "Success; 0; ; "},
	})
	wantNoQuery(t, api.ErrLong, longest+" ", name+"p", strings.Repeat("(", api.MaxQuery+1), strings.Repeat("\x00", 1<<16), strings.Repeat("p,", 1<<16))
	wantNoRun(t, "", "true", api.MaxScript+1, api.ErrLong)
	wantNoRun(t, "", "true", 1<<16, api.ErrLong)
	wantNoRun(t, strings.Repeat(" ", api.MaxProgram+1), "true", 1, api.ErrLong)
}

// The program's error, then what is too long, then the query's.
func TestWhichErrorOfARunGoesFirst(t *testing.T) {
	long := strings.Repeat("p", api.MaxQuery+1)
	for _, c := range []struct {
		program, query string
		picks          int
		errno          api.Errno
	}{
		{"p", "p,", 101, api.ErrSyntax}, {"p", long, 0, api.ErrSyntax}, {"p", "p", 101, api.ErrSyntax}, {"p(a,b,c,d).", long, 101, api.ErrBig}, {"p(a,b,c,d).", ";", 0, api.ErrBig}, {"p(1234567).", "p", 0, api.ErrBig}, {strings.Repeat("p.", 13), "", 0, api.ErrBig}, {strings.Repeat("p", 241), "", 0, api.ErrLong}, {strings.Repeat("p", 241), "1234567=X", 0, api.ErrLong}, {";", "1234567=X", 0, api.ErrSyntax}, {"p:-X<1.", "p", 0, api.ErrSyntax},
		{"", long, 101, api.ErrLong}, {"", long, 0, api.ErrLong}, {"", "p", 101, api.ErrLong}, {"", "p,", 101, api.ErrLong}, {"", "1234567=X", 101, api.ErrLong}, {"", "", 101, api.ErrLong}, {"", strings.Repeat(";", 97), 0, api.ErrLong},
		{"", "p,", 100, api.ErrSyntax}, {"", "1234567=X", 100, api.ErrBig},
		// within the query what is wrong first, from the left; of two at one token ErrSyntax
		{"", "1234567=X,=", 0, api.ErrBig}, {"", "X,1234567=X", 0, api.ErrSyntax}, {"", "p(a,b,c,d),", 0, api.ErrBig}, {"", "p,p,p,p,p,p,;", 0, api.ErrBig}, {"", "p,p,p,p,p,p;p", 0, api.ErrSyntax}, {"", "p,p,p,p,p,p,", 0, api.ErrBig}, {"", "X,p,p,p,p,p,p", 0, api.ErrSyntax}, {"", "p 1234567", 0, api.ErrSyntax}, {"", "X=Y 1234567", 0, api.ErrSyntax}, {"", "X<1234567", 0, api.ErrSyntax}, {"", "1234567<X", 0, api.ErrBig}, {"", nested(9) + ";", 0, api.ErrBig}, {"", "f(f(f(f(f(f(f(f(;", 0, api.ErrSyntax}, {"", "p.1234567", 0, api.ErrSyntax},
	} {
		wantNoRun(t, c.program, c.query, c.picks, c.errno)
	}
}

// Every token behind every beginning that can still become a query, so far as it reaches without coming to a bound.
func TestEachTokenBehindEachBeginningOfAQuery(t *testing.T) {
	goOnQuery(t, "", beginReading("Query"), 5)
}

func goOnQuery(t *testing.T, begin string, sets reading, reach int) {
	for _, word := range alphabet {
		text := begin + " " + word
		next, may := sets.with(terminalOf(word))
		want := api.ErrSyntax
		if may && next.complete("Query") {
			want = api.OK
		}
		if _, errno := parley.Run("", text, nil); errno != want {
			t.Errorf("P7: Run(\"\", %q, nil) says %d, want %d", text, errno, want)
		}
		if may && reach > 1 {
			goOnQuery(t, text, next, reach-1)
		}
	}
}

// Bytes put into, taken from and changed in queries and programs: most of what comes is wrong somewhere.
func TestSpoiltQueries(t *testing.T) {
	random := rand.New(rand.NewSource(7))
	queries := []string{"app(c(1,n),Y,Z),Z=c(X,W)", "X:=1+Y,Y:=X*2,Y=3", "p(f(f(f(f(f(f(a))))))),q(123456,X,Y)", "p,p,p,p,p,p", "int(X),true,X=f(Y,Z)", "m(X,c(2,Y),Z),X=n , Y = n"}
	signs := " \n:-=\\<+*(),|.aZ09;\t\x00\xff"
	met := map[api.Errno]int{}
	for i := 0; i < 12000; i++ {
		program := []string{"", appends, merges}[i%3]
		if i%4 == 0 {
			program = spoilt(random, program, signs)
		}
		_, errno := compareRuns(t, program, spoilt(random, queries[i%len(queries)], signs), randomScript(random, 6))
		if t.Failed() {
			return
		}
		met[errno]++
	}
	if met[api.OK] < 100 || met[api.ErrSyntax] < 100 || met[api.ErrBig] < 100 {
		t.Errorf("some answer came too seldom: %v", met)
	}
}

// Every byte, at each kind of place.
func TestEachByteInAQuery(t *testing.T) {
	for b := 0; b < 256; b++ {
		for _, frame := range []string{"@", "@p", "p@", "p@q", "p(@)", "p(X@)", "X@Y", "X@=Y", "X=@Y", "X:@1", "X:=@", "X:=1@", "X:=1@2", "p,@", "p@,q", "p(a)@"} {
			text := strings.Replace(frame, "@", string([]byte{byte(b)}), 1)
			compareRuns(t, "p. q:-p.", text, first(2))
		}
	}
}

func TestBeginningsOfQueries(t *testing.T) {
	const query = " p ( X , f(123456) ) , X = f(W) , Z := X + Y , int(Y) , Z := 1 \n , true "
	for end := 0; end <= len(query); end++ {
		compareRuns(t, "p(X,Y).", query[:end], first(3))
	}
}
