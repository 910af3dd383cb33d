package parley_test

import (
	"strings"
	"testing"

	"parley/api"
	"parley/parley"
)

func TestShow(t *testing.T) {
	for _, c := range []struct{ text, want string }{
		{"", ""}, {" \n ", ""},
		{"p.", "p.\n"}, {" p \n. q. ", "p.\nq.\n"},
		{"p( a , b,c ).", "p(a,b,c).\n"}, {"p(f(g ( a ),b)).", "p(f(g(a),b)).\n"},
		{"p:-q.", "p :- q.\n"}, {"p   :-\n\nq,r ,s.", "p :- q, r, s.\n"}, {"p:-q(a,b),r.", "p :- q(a,b), r.\n"},
		{"p:-1<2|q.", "p :- 1<2 | q.\n"}, {"p:-1 < 2,int( 3 ),a == b|q ,c = d.", "p :- 1<2, int(3), a==b | q, c=d.\n"},
		{"p:-int(1).", "p :- int(1).\n"}, {"p:-int(1)|int(2).", "p :- int(1) | int(2).\n"},
		{"p:-1=<2,a\\=b|q.", "p :- 1=<2, a\\=b | q.\n"},
		{"p:-X := 1,X:=Y + 2,X:=3 - Y,X:=Y * Y.", "p :- V0:=1, V0:=V1+2, V0:=3-V1, V0:=V1*V1.\n"},
		{"p(0,00,000000).", "p(0,0,0).\n"}, {"p(7,07,000100).", "p(7,7,100).\n"}, {"p(999999):-X:=010*001.", "p(999999) :- V0:=10*1.\n"},
		{"p(X).", "p(V0).\n"}, {"p(Y,X,Y).", "p(V0,V1,V0).\n"}, {"p(V1,V0).", "p(V0,V1).\n"}, {"p(X,Xx,XX).", "p(V0,V1,V2).\n"},
		{"p(X,Y).q(Y,X).r(Y).", "p(V0,V1).\nq(V0,V1).\nr(V0).\n"},
		{"p(A):-B<C,C<A|D:=B,E=D,q(F,A).", "p(V0) :- V1<V2, V2<V0 | V3:=V1, V4=V3, q(V5,V0).\n"},
		{"p(A,B,C):-q(D,E,F),q(G,H,I),q(J,K,A),q(L,B,K).", "p(V0,V1,V2) :- q(V3,V4,V5), q(V6,V7,V8), q(V9,V10,V0), q(V11,V1,V10).\n"},
		{strings.Repeat("p.", api.MaxClauses), strings.Repeat("p.\n", api.MaxClauses)},
	} {
		if shown, errno := parley.Show(c.text); shown != c.want || errno != api.OK {
			t.Errorf("P4: Show(%q) = %q, %d, want %q, %d", c.text, shown, errno, c.want, api.OK)
		}
	}
}

func TestShowOfWrongPrograms(t *testing.T) {
	for _, c := range []struct {
		text  string
		errno api.Errno
	}{
		{"p", api.ErrSyntax}, {"p.q", api.ErrSyntax}, {"p.;", api.ErrSyntax}, {"p:-X<1.", api.ErrSyntax}, {"p.q(1234567).", api.ErrBig}, {strings.Repeat("p.", api.MaxClauses+1), api.ErrBig}, {strings.Repeat("p.", 121), api.ErrLong}, {strings.Repeat(" ", api.MaxProgram+1), api.ErrLong},
	} {
		if shown, errno := parley.Show(c.text); shown != "" || errno != c.errno {
			t.Errorf("P1, P4: Show(%.60q) = %q, %d, want nothing and %d", c.text, shown, errno, c.errno)
		}
	}
}

// What Show writes is a program, and Show writes that one as it stands.
func TestShowOfWhatShowWrote(t *testing.T) {
	for _, text := range []string{"p.", "p(Z,Y):-int(Z)|Y:=Z*02,q(W,Y).r(W).", "p:-f(A,B)==f(B,A),B\\=A|A=B."} {
		once, errno := parley.Show(text)
		twice, again := parley.Show(once)
		if errno != api.OK || again != api.OK || once != twice {
			t.Errorf("P4: %q: %q, then %q", text, once, twice)
		}
	}
}
