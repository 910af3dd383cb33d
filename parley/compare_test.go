package parley_test

import (
	"math/rand"
	"strings"
	"testing"

	"parley/api"
	"parley/parley"
)

func compare(t *testing.T, text string) api.Errno {
	t.Helper()
	errno, at := parley.Check(text)
	wantErrno, wantAt := oracleCheck(text)
	if errno != wantErrno || at != wantAt {
		t.Errorf("P3: Check(%q) = %d, %d, want %d, %d", text, errno, at, wantErrno, wantAt)
	}
	want := ""
	if wantErrno == api.OK {
		want = oracleShow(text)
	}
	shown, showErrno := parley.Show(text)
	if shown != want || showErrno != wantErrno {
		t.Errorf("P4: Show(%q) = %q, %d, want %q, %d", text, shown, showErrno, want, wantErrno)
	}
	return errno
}

// One of each kind; two names, since int is one of its own.
var alphabet = []string{"q", "int", "X", "1", ":-", ":=", "==", "\\=", "=<", "=", "<", "+", "-", "*", "(", ")", ",", "|", "."}

// Every token behind every beginning that can still become a program, so far as it reaches without coming to a bound.
func TestEachTokenBehindEachBeginning(t *testing.T) {
	for _, c := range []struct {
		begin string
		reach int
	}{
		{"", 7}, {"p :-", 7}, {"p :- int ( X )", 6}, {"p :- X < 1", 6}, {"p :- X = 1", 6}, {"p :- int ( X ) |", 6}, {"p :- X < 1 , int ( X )", 5}, {"p :- q , int ( X )", 5}, {"p :- X < 1 | int ( X )", 5},
	} {
		sets := beginReading("Program")
		for _, word := range strings.Fields(c.begin) {
			sets, _ = sets.with(terminalOf(word))
		}
		goOn(t, c.begin, sets, c.reach)
	}
}

func goOn(t *testing.T, begin string, sets reading, reach int) {
	for _, word := range alphabet {
		text := begin + " " + word
		next, may := sets.with(terminalOf(word))
		wantErrno, wantAt := api.ErrSyntax, len(text)
		if !may {
			wantAt = len(begin) + 1
		} else if next.complete("Program") {
			wantErrno, wantAt = api.OK, 0
		}
		if errno, at := parley.Check(text); errno != wantErrno || at != wantAt {
			t.Errorf("P3: Check(%q) = %d, %d, want %d, %d", text, errno, at, wantErrno, wantAt)
		}
		if may && reach > 1 {
			goOn(t, text, next, reach-1)
		}
	}
}

// likes are words that a walk takes oftener than others, so that it comes to one of the bounds.
var likes = []string{"", "(", ",", ".", "1", "|", "int", ") . ("}

func TestWalksThroughPrograms(t *testing.T) {
	random := rand.New(rand.NewSource(1))
	met := map[api.Errno]int{}
	for i := 0; i < 8000; i++ {
		text := walk(random, likes[i%len(likes)])
		met[compare(t, text)]++
		if t.Failed() {
			return
		}
	}
	for _, errno := range []api.Errno{api.OK, api.ErrSyntax, api.ErrBig, api.ErrLong} {
		if met[errno] < 100 {
			t.Errorf("only %d walks came to the answer %d", met[errno], errno)
		}
	}
}

// walk goes on, nearly always, with a token that may stand there, and ends at a place where the program may end, or anywhere.
func walk(random *rand.Rand, likes string) string {
	text := ""
	sets := beginReading("Program")
	reach := random.Intn(100)
	for i := 0; len(text) <= api.MaxProgram; i++ {
		if i >= reach && (sets.complete("Program") || random.Intn(40) == 0) {
			break
		}
		next, word, ok := chooseWord(random, sets, likes)
		text += blanks(random) + spelling(random, word)
		if !ok {
			break
		}
		sets = next
	}
	return text + blanks(random)
}

func chooseWord(random *rand.Rand, sets reading, likes string) (reading, string, bool) {
	if random.Intn(150) == 0 {
		word := alphabet[random.Intn(len(alphabet))]
		next, ok := sets.with(terminalOf(word))
		return next, word, ok
	}
	for {
		word := alphabet[random.Intn(len(alphabet))]
		if random.Intn(2) == 0 && likes != "" {
			liked := strings.Fields(likes)
			word = liked[random.Intn(len(liked))]
		}
		if next, ok := sets.with(terminalOf(word)); ok {
			return next, word, true
		}
	}
}

// spelling writes a token in another way; where there is no blank ahead of a sign, it may make one with the sign ahead.
func spelling(random *rand.Rand, word string) string {
	switch word {
	case "q":
		return " " + []string{"q", "true", "intx", "int0", "in", "f7", "z"}[random.Intn(7)]
	case "X":
		return " " + []string{"X", "Y", "V1", "V0", "Xy2", "Int", "Z"}[random.Intn(7)]
	case "1":
		return " " + []string{"1", "0", "00", "007", "123456", "000000", "9"}[random.Intn(7)] + strings.Repeat("5", random.Intn(60)/59)
	}
	return strings.Repeat(" ", random.Intn(2)) + word
}

func blanks(random *rand.Rand) string {
	return []string{"", "", "", "", " ", "\n", " \n\n "}[random.Intn(7)]
}

// Bytes put into, taken from and changed in programs: most of what comes is wrong somewhere.
func TestSpoiltPrograms(t *testing.T) {
	random := rand.New(rand.NewSource(2))
	programs := []string{
		"p(X):-X<1,int(Y)|q(X),Z:=X+Y,Z=f(W).q:-true.",
		"append(nil,Y,Z):-Y=Z.append(c(H,X),Y,Z):-Z=c(H,W),append(X,Y,W).",
		"p:-A=<B,A==B,A\\=C|D:=1,D:=A-2,D:=A*B,int(D).",
		"p(f(f(f(f(f(f(a))))))).q(123456,X,Y):-r,r,r,r,r,r.",
		strings.Repeat("p.", 12),
	}
	signs := " \n:-=\\<+*(),|.aZ09;\t\x00\xff"
	for i := 0; i < 20000; i++ {
		if compare(t, spoilt(random, programs[i%len(programs)], signs)); t.Failed() {
			return
		}
	}
}

func spoilt(random *rand.Rand, right string, signs string) string {
	text := []byte(right)
	for j := random.Intn(3); j >= 0 && len(text) > 0; j-- {
		at := random.Intn(len(text))
		b := signs[random.Intn(len(signs))]
		switch random.Intn(4) {
		case 0:
			text = append(text[:at:at], text[at+1:]...)
		case 1:
			text[at] = b
		case 2:
			text[at] = byte(random.Intn(256))
		default:
			text = append(text[:at:at], append([]byte{b}, text[at:]...)...)
		}
	}
	return string(text)
}

// Each beginning of a program: a text that ends too early, and one that ends within a sign.
func TestBeginningsOfPrograms(t *testing.T) {
	for _, program := range []string{
		"p ( X ) :- X < 1 , int(Y) | q(X,123456) , Z := X + Y , Z = f(W) .\n q :- r .",
		"p:-A=<B,A==B,A\\=C|D:=1,D:=A-2,D:=A*B.",
		"p:-int(X).",
	} {
		for end := 0; end <= len(program); end++ {
			compare(t, program[:end])
		}
	}
}
