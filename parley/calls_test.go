package parley_test

import (
	"math"
	"strings"
	"testing"

	"parley/api"
	"parley/parley"
)

// oddTexts are all texts of at most two bytes, and some great ones.
func oddTexts() []string {
	texts := []string{"", strings.Repeat("(", 1<<20), strings.Repeat("p(", 1<<20), strings.Repeat("9", 1<<20), strings.Repeat("f(", 120), strings.Repeat("X,", 120), "p(" + strings.Repeat("\x00", 238), "p:-" + strings.Repeat("int(X)=", 33), strings.Repeat("p", 240), strings.Repeat("P", 240)}
	for a := 0; a < 256; a++ {
		texts = append(texts, string([]byte{byte(a)}))
		for b := 0; b < 256; b++ {
			texts = append(texts, string([]byte{byte(a), byte(b)}))
		}
	}
	return texts
}

func TestCheckAndShowAnswerAtAllTexts(t *testing.T) {
	for _, text := range oddTexts() {
		errno, at := parley.Check(text)
		right := errno == api.OK && at == 0 || errno == api.ErrLong && at == 0 && len(text) > api.MaxProgram || (errno == api.ErrSyntax || errno == api.ErrBig) && at >= 0 && at <= len(text)
		if !right {
			t.Errorf("P1, P3: Check(%.40q) = %d, %d", text, errno, at)
		}
		shown, showErrno := parley.Show(text)
		if showErrno != errno || errno != api.OK && shown != "" {
			t.Errorf("P1, P4: Show(%.40q) = %q, %d, but Check says %d", text, shown, showErrno, errno)
		}
	}
}

func TestEveryCallEnds(t *testing.T) {
	scripts := [][]api.Pick{nil, {}, {{G: -1, C: -1}}, {{G: math.MinInt, C: math.MaxInt}, {G: math.MaxInt, C: math.MinInt}}, make([]api.Pick, 5000)}
	for i, text := range oddTexts() {
		other := strings.Repeat(")", i%3) + "p"
		parley.Unify(text, other)
		parley.Unify(other, text)
		parley.Match(text, other)
		parley.Match(other, text)
		for _, script := range scripts {
			parley.Run(text, other, script)
			parley.Run("p.", text, script)
		}
	}
}

// The same texts, once in their order and once the other way round: what went before must not matter.
func TestAnswersHangOnTheTextAlone(t *testing.T) {
	texts := []string{"", "p(X,Y).", "p(Y):-X<Y|q(X).", "p(a,b,c,d).", "p:-", "p(1234567).", strings.Repeat("p.", 12), strings.Repeat("p.", 13), strings.Repeat("p.", 121), "p(Z).", ";"}
	type answer struct {
		errno, showErrno api.Errno
		at               int
		shown            string
	}
	ask := func(text string) answer {
		var a answer
		a.errno, a.at = parley.Check(text)
		a.shown, a.showErrno = parley.Show(text)
		return a
	}
	var first []answer
	for _, text := range texts {
		first = append(first, ask(text))
	}
	for i := len(texts) - 1; i >= 0; i-- {
		if again := ask(texts[i]); again != first[i] {
			t.Errorf("P2: %.40q: %+v, and once more %+v", texts[i], first[i], again)
		}
	}
}
