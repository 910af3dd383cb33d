package parley_test

import (
	"strings"
	"testing"

	"parley/api"
	"parley/parley"
)

type checked struct {
	text  string
	errno api.Errno
	at    int
}

func wantChecked(t *testing.T, cases []checked) {
	t.Helper()
	for _, c := range cases {
		if errno, at := parley.Check(c.text); errno != c.errno || at != c.at {
			t.Errorf("P3: Check(%.80q) = %d, %d, want %d, %d", c.text, errno, at, c.errno, c.at)
		}
	}
}

func TestProgramsThatAreRight(t *testing.T) {
	for _, text := range []string{
		"", " ", "\n", " \n \n", "p.", "\n p \n . \n", "p.q.p.", "p(X).", "p(X,Y,12).", "p(f(g(X),a,0),a1b2,Xy).", "int.", "int(X).", "int(X,Y):-int(X)|int(X).", "true:-true.",
		"p:-q.", "p:-q,r(X),true.", "p:-X=Y.", "p:-1=2.", "p:-f(X)=g.", "p:-X=X,q,Y:=1.", "p:-X:=Y.", "p:-X:=0.", "p:-X:=X+Y.", "p:-X:=1-2.", "p:-X:=Y*3.",
		"p:-X<Y|q.", "p:-X=<Y|q.", "p:-X==Y|q.", "p:-X\\=Y|q.", "p:-int(X)|q.", "p:-1<2|q.", "p:-f(X)<g(Y)|q.", "p:-q==r|s.", "p:-q(X)\\=r|s.", "p:-X<1,int(X),Y==Z|q,X=Y,Z:=X.",
		"p:-int(X),int(Y).", "p:-int(X),q.", "p:-int(X),X=1.", "p:-int(X),X:=1.", "p:-int(X),X<1|q.", "p:-q,int(X).", "p:-int(X)=1.", "p:-int(X)<1|q.", "p:-int(X)==int(Y)|q.", "p:-int(f(X))|q.", "p:-int(int(X))|int(X).", "p:-int.", "p:-int(X,Y).", "p:-int=X.", "p:-int(X,Y)==Z|q.", "p:-X<1,int==Y|q.",
		"p :-\nq\n,\nr\n.", "p:-X<1\n|\nq.", "p( X , f ( Y ) ) .",
	} {
		wantChecked(t, []checked{{text, api.OK, 0}})
	}
}

func TestTokensThatMayNotStand(t *testing.T) {
	wantChecked(t, []checked{
		{"X.", api.ErrSyntax, 0}, {"7.", api.ErrSyntax, 0}, {".", api.ErrSyntax, 0}, {" :-q.", api.ErrSyntax, 1}, {"(p).", api.ErrSyntax, 0}, {"p.X", api.ErrSyntax, 2}, {"p.\n .", api.ErrSyntax, 4}, {"p q.", api.ErrSyntax, 2}, {"p 1.", api.ErrSyntax, 2}, {"p|q.", api.ErrSyntax, 1}, {"p,q.", api.ErrSyntax, 1}, {"p=q.", api.ErrSyntax, 1}, {"p:=q.", api.ErrSyntax, 1}, {"p(X):-q:-r.", api.ErrSyntax, 7},
		{"p().", api.ErrSyntax, 2}, {"p(,X).", api.ErrSyntax, 2}, {"p(X,).", api.ErrSyntax, 4}, {"p(X,,Y).", api.ErrSyntax, 4}, {"p(X.", api.ErrSyntax, 3}, {"p(X|Y).", api.ErrSyntax, 3}, {"p(X=Y).", api.ErrSyntax, 3}, {"p(1(X)).", api.ErrSyntax, 3}, {"p(X(Y)).", api.ErrSyntax, 3}, {"p(-1).", api.ErrSyntax, 2}, {"p(1-1).", api.ErrSyntax, 3}, {"p(X)).", api.ErrSyntax, 4}, {"p(X)(Y).", api.ErrSyntax, 4}, {"p((X)).", api.ErrSyntax, 2},
		{"p:-.", api.ErrSyntax, 3}, {"p:-,q.", api.ErrSyntax, 3}, {"p:-|q.", api.ErrSyntax, 3}, {"p:-q,.", api.ErrSyntax, 5}, {"p:-q,|r.", api.ErrSyntax, 5}, {"p:-q r.", api.ErrSyntax, 5}, {"p:-q:-r.", api.ErrSyntax, 4}, {"p:-(q).", api.ErrSyntax, 3}, {"p:-=q.", api.ErrSyntax, 3}, {"p:-q=.", api.ErrSyntax, 5}, {"p:-X<|q.", api.ErrSyntax, 5}, {"p:-X=Y=Z.", api.ErrSyntax, 6}, {"p:-X= =Y|q.", api.ErrSyntax, 6}, {"p:-X<=Y|q.", api.ErrSyntax, 5}, {"p:-X=Y<Z.", api.ErrSyntax, 6}, {"p:-X<Y<Z|q.", api.ErrSyntax, 6}, {"p:-X<Y=Z|q.", api.ErrSyntax, 6}, {"p:-X+1=2.", api.ErrSyntax, 4}, {"p:-X=1+2.", api.ErrSyntax, 6}, {"p:-X<Y*2|q.", api.ErrSyntax, 6},
		{"p:-X<1|.", api.ErrSyntax, 7}, {"p:-X<1||q.", api.ErrSyntax, 7}, {"p:-X<1|q|r.", api.ErrSyntax, 8}, {"p:-X<1|int(X)|r.", api.ErrSyntax, 13}, {"p:-X<1|Y<2.", api.ErrSyntax, 8}, {"p:-X<1|int(X)==1.", api.ErrSyntax, 13}, {"p:-X<1|q,.", api.ErrSyntax, 9}, {"p:-X<1|X.", api.ErrSyntax, 8}, {"p:-X<1|7,q.", api.ErrSyntax, 8},
		{"p:-X:=.", api.ErrSyntax, 6}, {"p:-X:=f.", api.ErrSyntax, 6}, {"p:-X:=int(Y).", api.ErrSyntax, 6}, {"p:-X:=-1.", api.ErrSyntax, 6}, {"p:-X:=1+.", api.ErrSyntax, 8}, {"p:-X:=1+f.", api.ErrSyntax, 8}, {"p:-X:=1+-2.", api.ErrSyntax, 8}, {"p:-X:=1+2+3.", api.ErrSyntax, 9}, {"p:-X:=1=2.", api.ErrSyntax, 7}, {"p:-X:=1<2.", api.ErrSyntax, 7}, {"p:-X:=1:=2.", api.ErrSyntax, 7}, {"p:-X:=Y(Z).", api.ErrSyntax, 7}, {"p:-1:=X.", api.ErrSyntax, 4}, {"p:-f:=X.", api.ErrSyntax, 4}, {"p:-f(Y):=X.", api.ErrSyntax, 7}, {"p:-X=Y:=Z.", api.ErrSyntax, 6}, {"p:-X:=(1).", api.ErrSyntax, 6},
	})
}

func TestNumbersAndVariablesAloneAreNothing(t *testing.T) {
	for _, item := range []string{"X", "7"} {
		for _, behind := range []string{".", ",q.", "|q.", ")", "(X).", "+1.", ":-q.", ""} {
			wantChecked(t, []checked{{"p:-" + item + behind, api.ErrSyntax, 4}, {"p:-q," + item + behind, api.ErrSyntax, 6}, {"p:-1<2," + item + behind, api.ErrSyntax, 8}, {"p:-1<2|" + item + behind, api.ErrSyntax, 8}})
		}
	}
}

// What may stand behind items goes by what all of them together can be.
func TestWhatMayStandBehindItems(t *testing.T) {
	both := []string{"int(X)", "int(f(Y))", "int(1)"}
	tests := []string{"X<1", "1=<X", "f==g", "f(X)\\=1", "int(X)<1", "int==X"}
	goals := []string{"q", "q(X)", "X=1", "f=g", "int(X)=1", "X:=1", "X:=Y*2", "int", "int(X,Y)"}
	may := func(items string, sign string) {
		t.Helper()
		text := "p:-" + items + sign
		wantChecked(t, []checked{{text, api.ErrSyntax, len(text)}})
	}
	mayNot := func(items string, sign string) {
		t.Helper()
		text := "p:-" + items + sign
		wantChecked(t, []checked{{text, api.ErrSyntax, len(text) - len(sign)}})
	}
	mayEnd := func(items string) {
		t.Helper()
		wantChecked(t, []checked{{"p:-" + items + ".", api.OK, 0}})
	}
	for _, b := range both {
		may(b, "|")
		mayEnd(b)
		may(b, ",")
		for _, c := range tests {
			for _, items := range []string{c, b + "," + c, c + "," + b} {
				may(items, "|")
				may(items, ",")
				mayNot(items, ".")
				for _, sign := range []string{"=", ":="} {
					mayNot(items+",Z", sign)
				}
				for _, sign := range []string{"<", "=<", "==", "\\="} {
					may(items+",Z", sign)
					may(items+",q", sign)
				}
				for _, sign := range []string{",", "|", ".", "=", ":="} {
					mayNot(items+",q", sign)
					mayNot(items+",int(X,Y)", sign)
				}
			}
		}
		for _, g := range goals {
			for _, items := range []string{g, b + "," + g, g + "," + b} {
				mayNot(items, "|")
				may(items, ",")
				mayEnd(items)
				for _, sign := range []string{"=", ":="} {
					may(items+",Z", sign)
				}
				for _, sign := range []string{"<", "=<", "==", "\\="} {
					mayNot(items+",Z", sign)
					mayNot(items+",int(X)", sign)
				}
			}
		}
	}
}

func TestProgramsThatEndTooEarly(t *testing.T) {
	for _, text := range []string{
		"p", "p ", "p\n\n", "p(", "p(X", "p(X,", "p(f(", "p(f(X", "p(f(X)", "p(X)", "p:-", "p:- \n", "p:-q", "p:-q,", "p:-q(", "p:-X", "p:-1", "p:-X=", "p:-X=Y", "p:-X:=", "p:-X:=1", "p:-X:=1+", "p:-X:=1+Y", "p:-X<", "p:-X<1", "p:-X<1,", "p:-X<1,q", "p:-X<1|", "p:-X<1|q", "p:-int(X)", "p:-int(X)|", "p.q", "p.q:-r.s(",
	} {
		wantChecked(t, []checked{{text, api.ErrSyntax, len(text)}})
	}
}

func TestBytesThatBeginNoToken(t *testing.T) {
	wantChecked(t, []checked{
		{";", api.ErrSyntax, 0}, {"_.", api.ErrSyntax, 0}, {"p_q.", api.ErrSyntax, 1}, {"p(_).", api.ErrSyntax, 2}, {"p\t.", api.ErrSyntax, 1}, {"p.\r\n", api.ErrSyntax, 2}, {"p.\x00", api.ErrSyntax, 2}, {"p.\xff", api.ErrSyntax, 2}, {"p\u00e9.", api.ErrSyntax, 1}, {"p:", api.ErrSyntax, 1}, {"p: -q.", api.ErrSyntax, 1}, {"p:-X:1.", api.ErrSyntax, 4}, {"p:-X\\Y|q.", api.ErrSyntax, 4}, {"p:-X\\", api.ErrSyntax, 4}, {"p:-X\\ =Y|q.", api.ErrSyntax, 4}, {"p:-X>1|q.", api.ErrSyntax, 4}, {"p:-X<>1|q.", api.ErrSyntax, 5}, {"p:-X=1;q.", api.ErrSyntax, 6}, {"% p\np.", api.ErrSyntax, 0}, {"p:-X:=1/2.", api.ErrSyntax, 7},
	})
}

// Every byte, at each kind of place.
func TestEachByteAtEachPlace(t *testing.T) {
	for b := 0; b < 256; b++ {
		for _, program := range []string{"@", "@.", "p@", "p@.", "p.@", "p(@).", "p(X@).", "p(f@).", "p:@q.", "p:-@.", "p:-@q.", "p:-q@.", "p:-q@r.", "p:-X@1.", "p:-X@=1|q.", "p:-X=@1.", "p:-X:=1@2.", "p:-X<1@q.", "p:-X<1,int(X)@q.", "p:-int(X)@q."} {
			compare(t, strings.Replace(program, "@", string([]byte{byte(b)}), 1))
		}
	}
}

func nested(names int) string {
	return strings.Repeat("f(", names-1) + "a" + strings.Repeat(")", names-1)
}

func TestEachBoundMetAndPassed(t *testing.T) {
	goals := strings.Repeat("q,", api.MaxParts-1) + "q"
	tests := strings.Repeat("1<2,", api.MaxParts-1) + "1<2"
	ints := strings.Repeat("int(1),", api.MaxParts-1) + "int(1)"
	clauses := strings.Repeat("p.", api.MaxClauses)
	wantChecked(t, []checked{
		{"p." + strings.Repeat(" ", api.MaxProgram-2), api.OK, 0}, {"p." + strings.Repeat(" ", api.MaxProgram-1), api.ErrLong, 0},

		{"p(123456).", api.OK, 0}, {"p(1234567).", api.ErrBig, 2}, {"p(000000).", api.OK, 0}, {"p(0000000).", api.ErrBig, 2}, {"p( \n1234567).", api.ErrBig, 4}, {"p:-X=123456.", api.OK, 0}, {"p:-X=1234567.", api.ErrBig, 5}, {"p:-1234567=X.", api.ErrBig, 3}, {"p:-X:=123456.", api.OK, 0}, {"p:-X:=1234567.", api.ErrBig, 6}, {"p:-X:=1+123456.", api.OK, 0}, {"p:-X:=1+1234567.", api.ErrBig, 8}, {"p:-X<123456|q.", api.OK, 0}, {"p:-X<1234567|q.", api.ErrBig, 5}, {"p(" + strings.Repeat("9", 230) + ").", api.ErrBig, 2},

		{"p(a,b,c).", api.OK, 0}, {"p(a,b,c,d).", api.ErrBig, 7}, {"p(a,f(a,b,c)).", api.OK, 0}, {"p(a,f(a,b,c,d)).", api.ErrBig, 11}, {"p(a,b,f(X,Y,Z)).", api.OK, 0}, {"p:-q(a,b,c).", api.OK, 0}, {"p:-q(a,b,c,d).", api.ErrBig, 10}, {"p:-X=q(a,b,c,d).", api.ErrBig, 12}, {"p:-1<q(a,b,c,d)|r.", api.ErrBig, 12}, {"p:-int(a,b,c,d).", api.ErrBig, 12}, {"p:-X<1|q(a,b,c,d).", api.ErrBig, 14}, {"p(a , b , c , d).", api.ErrBig, 12},

		{"p:-" + goals + ".", api.OK, 0}, {"p:-" + goals + ",q.", api.ErrBig, 3 + len(goals)}, {"p:-" + tests + "|q.", api.OK, 0}, {"p:-" + tests + ",1<2|q.", api.ErrBig, 3 + len(tests)}, {"p:-" + ints + ".", api.OK, 0}, {"p:-" + ints + "|q.", api.OK, 0}, {"p:-" + ints + ",int(1).", api.ErrBig, 3 + len(ints)}, {"p:-" + tests + "|" + goals + ".", api.OK, 0}, {"p:-" + tests + "|" + goals + ",q.", api.ErrBig, 4 + len(tests) + len(goals)}, {"p:-1<2|" + goals + " , q.", api.ErrBig, 8 + len(goals)},

		{nested(api.MaxDeep) + ".", api.OK, 0}, {nested(api.MaxDeep+1) + ".", api.ErrBig, 16}, {"p:-" + nested(api.MaxDeep) + ".", api.OK, 0}, {"p:-" + nested(api.MaxDeep+1) + ".", api.ErrBig, 19}, {"p:-X=" + nested(api.MaxDeep) + ".", api.OK, 0}, {"p:-X=" + nested(api.MaxDeep+1) + ".", api.ErrBig, 21}, {"p:-" + nested(api.MaxDeep+1) + "=X.", api.ErrBig, 19}, {"p:-X<" + nested(api.MaxDeep) + "|q.", api.OK, 0}, {"p:-X<" + nested(api.MaxDeep+1) + "|q.", api.ErrBig, 21}, {"p:-int(" + nested(api.MaxDeep-1) + ")|q.", api.OK, 0}, {"p:-int(" + nested(api.MaxDeep) + ")|q.", api.ErrBig, 21}, {"p(f(f(f(f(f(f(a,X,1))))))).", api.OK, 0}, {"p(f(f(f(f(f(f(a,X,f( 1)))))))).", api.ErrBig, 21}, {"p(f(f(f(f(f(f(f(X", api.ErrBig, 16}, {"p(f(f(f(f(f(f(f(1", api.ErrBig, 16}, {"p(f(f(f(f(f(f(f(g", api.ErrBig, 16},

		{clauses, api.OK, 0}, {clauses + " \n", api.OK, 0}, {clauses + "p.", api.ErrBig, 24}, {clauses + " \np.", api.ErrBig, 26}, {clauses + "p", api.ErrBig, 24}, {clauses + "p(1234567).", api.ErrBig, 24}, {clauses + "p,", api.ErrBig, 24},
	})
}

func TestWhichFaultGoesFirst(t *testing.T) {
	clauses := strings.Repeat("p.", api.MaxClauses)
	tests := strings.Repeat("1<2,", api.MaxParts-1)
	wantChecked(t, []checked{
		// two at one token
		{"1234567.", api.ErrSyntax, 0}, {"p 1234567.", api.ErrSyntax, 2}, {"p(X 1234567).", api.ErrSyntax, 4}, {"p:-X:=1 1234567.", api.ErrSyntax, 8}, {clauses + "P.", api.ErrSyntax, 24}, {clauses + ".", api.ErrSyntax, 24}, {clauses + ";", api.ErrSyntax, 24}, {clauses + "1234567", api.ErrSyntax, 24}, {"p(f(f(f(f(f(f(f()", api.ErrSyntax, 16}, {"p(f(f(f(f(f(f(f(,", api.ErrSyntax, 16}, {"p(f(f(f(f(f(f(f(;", api.ErrSyntax, 16}, {"p(f(f(f(f(f(f(f(", api.ErrSyntax, 16}, {"p(f(f(f(f(f(f(f(1234567", api.ErrBig, 16}, {"p:-" + tests + "q,r|s.", api.ErrSyntax, 24}, {"p:-" + tests + "X,r|s.", api.ErrSyntax, 24},
		// one ahead of the other
		{"p(a,b,c,)", api.ErrBig, 7}, {"p(a,b,c,", api.ErrBig, 7}, {"p(a,b,c,;", api.ErrBig, 7}, {"p:-q,q,q,q,q,q,.", api.ErrBig, 14}, {"p(1234567", api.ErrBig, 2}, {"p(1234567;", api.ErrBig, 2}, {"p;(1234567", api.ErrSyntax, 1}, {"p(X,,1234567).", api.ErrSyntax, 4}, {"p(a,b,c,1234567).", api.ErrBig, 7}, {"p.q(1234567).r(a,b,c,d).", api.ErrBig, 4}, {"p.q(a,b,c,d).r(1234567).", api.ErrBig, 9}, {"p:-X<1.q(1234567).", api.ErrSyntax, 6}, {"p:-X=1234567|q.", api.ErrBig, 5},
		// a text that is too long, whatever else is wrong with it
		{strings.Repeat(")", api.MaxProgram), api.ErrSyntax, 0}, {strings.Repeat(")", api.MaxProgram+1), api.ErrLong, 0}, {strings.Repeat("p.", api.MaxProgram), api.ErrLong, 0}, {strings.Repeat("(", 5000000), api.ErrLong, 0}, {"p(" + strings.Repeat("9", api.MaxProgram), api.ErrLong, 0},
	})
}
