package parley_test

import (
	"strings"
	"testing"

	"parley/api"
)

// wantErrno asks both calls that read two terms.
func wantErrno(t *testing.T, a, b string, errno api.Errno) {
	t.Helper()
	wantUnified(t, a, b, unified{errno: errno})
	wantMatched(t, a, b, matched{errno: errno})
}

// wantWrong takes each text for the first term, and for the second.
func wantWrong(t *testing.T, errno api.Errno, texts ...string) {
	t.Helper()
	for _, text := range texts {
		for _, right := range []string{"a", "X", "f(X,1)"} {
			wantErrno(t, text, right, errno)
			wantErrno(t, right, text, errno)
		}
		wantErrno(t, text, text, errno)
	}
}

func TestTextsThatAreNoTerms(t *testing.T) {
	wantWrong(t, api.ErrSyntax,
		"", " ", "\n", "a b", "X Y", "1 2", "a.", ".", "X=Y", "X:=1", "a:-b", "X<1", "X==Y", "X\\=Y", "X=<Y", "a,b", "a|b", "-1", "1-1", "+", "*", "(a)", "f()", "f(,a)", "f(a,)", "f(a,,b)", "f(a", "f(a,", "f(", "f(a))", "f(a)(b)", "f(a)b", "X(a)", "1(a)", "f(a.b)", "f(a|b)", "f(X=Y)", "f((a))", "f(a b)", strings.Repeat(")", api.MaxTerm), strings.Repeat(" ", api.MaxTerm),
	)
}

func TestBytesThatBeginNoTokenOfATerm(t *testing.T) {
	wantWrong(t, api.ErrSyntax,
		";", "a;", "f(;", "f(a;", "f(a);", "_", "f(_)", "a_b", "a\tb", "a\t", "\ta", "a\r\n", "\x00", "a\x00", "\xff", "X\xff", "\u00e9", "a\u00e9", ":", "f(:)", "a:", "\\", "a\\", "f[a]", "\"a\"", "a%b", "f(a)\v",
	)
}

func TestBoundsOfTerms(t *testing.T) {
	for _, c := range []struct{ met, passed string }{
		{"123456", "1234567"}, {"000000", "0000000"}, {"f(123456)", "f(1234567)"}, {"f(a,g(1,000001))", "f(a,g(1,0000001))"},
		{"f(a,b,c)", "f(a,b,c,d)"}, {"f(a,g(X,Y,Z))", "f(a,g(X,Y,Z,W))"}, {"f(f(a,b,c),f(a,b,c),c)", "f(f(a,b,c),f(a,b,c),c,a)"},
		{nested(api.MaxDeep), nested(api.MaxDeep + 1)}, {"f(f(f(f(f(f(f(X)))))))", "f(f(f(f(f(f(f(f(X))))))))"}, {"f(a,f(a,f(a,f(a,f(a,f(a,f(a,1)))))))", "f(a,f(a,f(a,f(a,f(a,f(a,f(a,f(1))))))))"},
	} {
		wantUnified(t, c.met, "X", unified{parse(c.met).renamed(map[string]string{}).String(), true, api.OK})
		wantMatched(t, "X", c.met, matched{says: api.Yes})
		wantMatched(t, c.met, "X", matched{says: api.Wait, waits: "X"})
		wantWrong(t, api.ErrBig, c.passed)
	}
}

func TestLengthOfTerms(t *testing.T) {
	longest := "a" + strings.Repeat(" ", api.MaxTerm-1)
	name := strings.Repeat("a", api.MaxTerm)
	variable := strings.Repeat("X", api.MaxTerm)
	wantUnified(t, longest, longest, unified{"a", true, api.OK})
	wantUnified(t, name, name, unified{name, true, api.OK})
	wantUnified(t, variable, name, unified{name, true, api.OK})
	wantMatched(t, longest, longest, matched{says: api.Yes})
	wantMatched(t, name, name, matched{says: api.Yes})
	wantMatched(t, name, variable, matched{says: api.Wait, waits: variable})
	wantWrong(t, api.ErrLong, longest+" ", name+"a", variable+"X", strings.Repeat("(", api.MaxTerm+1), strings.Repeat("9", api.MaxTerm+1), strings.Repeat("f(", 1<<16), strings.Repeat("\x00", 1<<16))
}

func TestWhichFaultOfATermGoesFirst(t *testing.T) {
	// two at one token
	wantWrong(t, api.ErrSyntax, "f(X 1234567)", "a 1234567", "f(f(f(f(f(f(f(f()", "f(f(f(f(f(f(f(f(,", "f(f(f(f(f(f(f(f(;", "f(f(f(f(f(f(f(f(")
	wantWrong(t, api.ErrBig, "f(f(f(f(f(f(f(f(1234567")
	// one ahead of the other
	wantWrong(t, api.ErrBig, "f(1234567", "f(1234567;", "1234567 a", "f(a,b,c,)", "f(a,b,c,;", "f(a,b,c,", "f(f(f(f(f(f(f(f(a.", "f(1234567).")
	wantWrong(t, api.ErrSyntax, "f(a;1234567)", "f;(1234567)", "f(,1234567)", "f(a)(1234567)", "f(a.b,c,d,e)", ")f(a,b,c,d)")
}

func TestWhichTextsFaultGoesFirst(t *testing.T) {
	long := strings.Repeat("a", api.MaxTerm+1)
	for _, c := range []struct {
		a, b  string
		errno api.Errno
	}{
		{long, "f(", api.ErrLong}, {"f(", long, api.ErrLong}, {long, "1234567", api.ErrLong}, {"1234567", long, api.ErrLong}, {long, long, api.ErrLong}, {"", long, api.ErrLong},
		{"f(", "1234567", api.ErrSyntax}, {"1234567", "f(", api.ErrBig}, {";", "f(a,b,c,d)", api.ErrSyntax}, {"f(a,b,c,d)", ";", api.ErrBig}, {"", nested(api.MaxDeep + 1), api.ErrSyntax}, {nested(api.MaxDeep + 1), "", api.ErrBig},
		// ahead of what the terms say
		{"f(a", "g(b)", api.ErrSyntax}, {"a", "1234567", api.ErrBig}, {great, greatOther, api.ErrSyntax},
	} {
		wantErrno(t, c.a, c.b, c.errno)
	}
}

// Every byte, at each kind of place, in the first term and in the second.
func TestEachByteInATerm(t *testing.T) {
	for b := 0; b < 256; b++ {
		for _, frame := range []string{"@", "@a", "a@", "X@", "1@", "f@a)", "f(@)", "f(X@)", "f(X@Y)", "f(a)@", "a @", "f(a@,b)"} {
			text := strings.Replace(frame, "@", string([]byte{byte(b)}), 1)
			compareTerms(t, text, "X")
			compareTerms(t, "f(X,Y)", text)
		}
	}
}
