package parley_test

import (
	"strings"
	"testing"
)

func TestTheLog(t *testing.T) {
	wantRuns(t, "P11", []running{
		{"p. q(a). q(b).", "true", nil, "Open; ; ; true"},
		{"p. q(a). q(b).", "true,X=1,Y:=2,p,q(b)", first(5), "Success; 0 0 0 1 3; 1 2; "},
		{"p. q(a). q(b).", "q(X),Y:=X,X=c", goals(0, 0, 0, 0), "Failure; -1 -1 0 -2; ; "},
		{"p. q(a). q(b).", "q(X),Y:=X,X=c", goals(0, 0, 0, 1), "Arith; -1 -1 0 -2; ; "},
		{"p. q(a). q(b).", "r", first(3), "Failure; -2; ; "},
		// the step behind which it is too large has its own number
		{"p:-p,p,p,p,p,p.", "p", first(9), "Large; 1 1 1 1 1; ; "},
		{"q. p:-p,p,p,p,p,p.", "p", first(9), "Large; 2 2 2 2 2; ; "},
		{strings.Repeat("p(a). ", 11) + "p(b).", "p(b)", first(1), "Success; 12; ; "},
	})
}

func TestTheNamesOfTheVariables(t *testing.T) {
	wantRuns(t, "P11", []running{
		{"", "p(Z,Y,X)", nil, "Open; ; V0 V1 V2; p(V0,V1,V2)"},
		{"", "p(Z,f(Y,Z),X),q(X,W)", nil, "Open; ; V0 V1 V2 V3; p(V0,f(V1,V0),V2) q(V2,V3)"},
		{"", "X=f(Y,Z),p(Z,Y,X)", first(1), "Open; 0; f(V0,V1) V0 V1; p(V1,V0,f(V0,V1))"},
		{"", "X=f(Z,Y),p(Y,Z)", first(1), "Open; 0; f(V0,V1) V0 V1; p(V1,V0)"},
		{"", "p(Y,Z),X=f(Z,Y)", goals(1), "Open; 0; V0 V1 f(V1,V0); p(V0,V1)"},
		{"", "X=g(Y,Z),Z=Y", first(2), "Success; 0 0; g(V0,V0) V0 V0; "},
		// those of the goals behind those of the values, from left to right
		{"p(X):-q(A,B),B=f(X,C),D:=A*E.", "p(Y)", first(1), "Open; 1; V0; q(V1,V2) V2=f(V0,V3) V4:=V1*V5"},
		{"p(X):-D:=E-F,q(F,E,D).", "p(Y)", first(1), "Open; 1; V0; V1:=V2-V3 q(V3,V2,V1)"},
		{"p:-f(A,B)=g(C,A),q(C).", "p", first(1), "Open; 1; ; f(V0,V1)=g(V2,V0) q(V2)"},
		{"p:-A:=B,q(B,A).", "p", first(1), "Open; 1; ; V0:=V1 q(V1,V0)"},
		{"", "V5=V3,V9=a,p(V3)", goals(1), "Open; 0; V0 V1 a; V0=V1 p(V1)"},
		{"p(V1,V0):-q(V0,V1).", "p(V3,V4)", first(1), "Open; 1; V0 V1; q(V1,V0)"},
		// more than ten
		{"p:-q(A,B,C),q(D,E,F),q(G,H,I),q(J,K,L).", "p", first(1), "Open; 1; ; q(V0,V1,V2) q(V3,V4,V5) q(V6,V7,V8) q(V9,V10,V11)"},
	})
}

func TestHowGoalsAreWritten(t *testing.T) {
	wantRuns(t, "P11", []running{
		{"", " p ( X , 007 ) , X = 00 , X := 01 + Y , true ", nil, "Open; ; V0 V1; p(V0,7) V0=0 V0:=1+V1 true"},
		{"", "X=f(a),f(X)=Y,p(X)", first(1), "Open; 0; f(a) V0; f(f(a))=V0 p(f(a))"},
		{"", "Y=3,X:=Y,X:=Y+Z,X:=Z-Y,X:=Y*Y", first(1), "Open; 0; 3 V0 V1; V0:=3 V0:=3+V1 V0:=V1-3 V0:=3*3"},
		{"", "X=a,X:=Y", first(1), "Open; 0; a V0; a:=V0"},
		{"", "X=f(Y),X:=Y*X", first(1), "Open; 0; f(V0) V0; f(V0):=V0*f(V0)"},
		{"", "int(X),true(Y)", nil, "Open; ; V0 V1; int(V0) true(V1)"},
	})
}

func TestNumbersBelowNought(t *testing.T) {
	wantRuns(t, "P11", []running{
		{"", "X:=0-1", first(1), "Success; 0; -1; "},
		{"", "X:=0-12,Y=f(X,a),p(X,Y)", first(2), "Open; 0 0; -12 f(-12,a); p(-12,f(-12,a))"},
		{"", "X:=0-5,Y:=X,Y:=X+Z,Y:=Z-X,Y:=X*X", first(1), "Open; 0; -5 V0 V1; V0:=-5 V0:=-5+V1 V0:=V1--5 V0:=-5*-5"},
		{"", "X:=0-5,X=Y,a=X", first(1), "Open; 0; -5 V0; -5=V0 a=-5"},
		{"", "X:=0-5,X:=Y", first(1), "Open; 0; -5 V0; -5:=V0"},
		{"", "X:=0-5,Y:=0-5,X=Y", first(3), "Success; 0 0 0; -5 -5; "},
		{"", "X:=0-5,X=5", first(2), "Failure; 0 -2; ; "},
		{"p(5).", "X:=0-5,p(X)", first(2), "Failure; 0 -2; ; "},
		{"p(X,X).", "X:=0-5,Y:=1-6,p(X,Y)", first(3), "Success; 0 0 1; -5 -5; "},
	})
}

func TestWhoIsReadyInTheEnd(t *testing.T) {
	wantRuns(t, "P11", []running{
		{"p(a).", "p(X),X=Y,p(Y)", goals(0, 1), "Open; -1 -1; V0 V1; p(V0)~ V0=V1 p(V1)~"},
		{"p(a).", "p(X),X=Y,p(Y)", goals(0, 1, 0), "Open; -1 -1 0; V0 V0; p(V0)~ p(V0)"},
		{"p(a).", "p(X),X=Y,p(Y)", goals(0, 1, 0, 0), "Deadlock; -1 -1 0 -1; V0 V0; p(V0)~ p(V0)~"},
		{"p(a).", "p(X),X=b", goals(0, 0), "Open; -1 0; b; p(b)"},
	})
}
