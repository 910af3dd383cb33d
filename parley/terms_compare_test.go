package parley_test

import (
	"math/rand"
	"strings"
	"testing"

	"parley/api"
	"parley/parley"
)

// compareTerms holds both calls against the other way of answering; it tells what they answered.
func compareTerms(t *testing.T, a, b string) (unified, matched) {
	t.Helper()
	var ofUnify unified
	ofUnify.text, ofUnify.ok, ofUnify.errno = oracleUnify(a, b)
	wantUnified(t, a, b, ofUnify)
	says, waits, errno := oracleMatch(a, b)
	ofMatch := matched{says, strings.Join(waits, " "), errno}
	wantMatched(t, a, b, ofMatch)
	return ofUnify, ofMatch
}

// termsOfSize answers all terms of that size with the words given, f having one argument and g two.
func termsOfSize(size int, words []string) []string {
	if size == 1 {
		return words
	}
	var terms []string
	for _, arg := range termsOfSize(size-1, words) {
		terms = append(terms, "f("+arg+")")
	}
	for first := 1; first < size-1; first++ {
		for _, a := range termsOfSize(first, words) {
			for _, b := range termsOfSize(size-1-first, words) {
				terms = append(terms, "g("+a+","+b+")")
			}
		}
	}
	return terms
}

func allUpTo(size int, words []string) []string {
	var all []string
	for i := 1; i <= size; i++ {
		all = append(all, termsOfSize(i, words)...)
	}
	return all
}

// comesOf tells whether putting terms for the variables of a pattern makes this term.
func comesOf(t, pattern term, puts map[string]string) bool {
	if pattern.isVariable() {
		if puts[pattern.text] == "" {
			puts[pattern.text] = t.String()
		}
		return puts[pattern.text] == t.String()
	}
	if t.text != pattern.text || len(t.args) != len(pattern.args) {
		return false
	}
	for i := range t.args {
		if !comesOf(t.args[i], pattern.args[i], puts) {
			return false
		}
	}
	return true
}

// The words of P5 themselves: of the terms without variables, those that come of both are those that come of the answer.
func TestWhatComesOfBothComesOfTheAnswer(t *testing.T) {
	terms := allUpTo(4, []string{"a", "X", "Y"})
	var grounds []term
	for _, text := range allUpTo(6, []string{"a", "b"}) {
		grounds = append(grounds, parse(text))
	}
	come := map[string][]bool{}
	comeOf := func(pattern string) []bool {
		if come[pattern] == nil {
			for _, ground := range grounds {
				come[pattern] = append(come[pattern], comesOf(ground, parse(pattern), map[string]string{}))
			}
		}
		return come[pattern]
	}
	for _, a := range terms {
		for _, b := range terms {
			common, ok, errno := parley.Unify(a, b)
			if errno != api.OK {
				t.Fatalf("P5: Unify(%q, %q) = %d", a, b, errno)
			}
			ofA, ofB := comeOf(a), comeOf(b)
			for i, ground := range grounds {
				if of := ok && comeOf(common)[i]; of != (ofA[i] && ofB[i]) {
					t.Fatalf("P5: Unify(%q, %q) = %q, %v: %v comes of it: %v, of both: %v", a, b, common, ok, ground, of, !of)
				}
			}
		}
	}
}

func TestAllPairsOfSmallTerms(t *testing.T) {
	terms := allUpTo(4, []string{"a", "1", "X", "Y"})
	for _, a := range terms {
		for _, b := range terms {
			compareTerms(t, a, b)
		}
		if t.Failed() {
			return
		}
	}
}

// What the two promises say of one another.
func TestMatchAndUnifyAgree(t *testing.T) {
	terms := allUpTo(4, []string{"a", "X", "Y"})
	for _, a := range terms {
		for _, b := range terms {
			common, ok, _ := parley.Unify(a, b)
			says, _, _ := parley.Match(a, b)
			itself := parse(b).renamed(map[string]string{}).String()
			if says == api.Yes != (ok && common == itself) {
				t.Errorf("P5, P6: Match(%q, %q) = %d, but Unify answers %q, %v", a, b, says, common, ok)
			}
			if says == api.No && ok {
				t.Errorf("P5, P6: Match(%q, %q) = %d, but %q comes of both", a, b, says, common)
			}
			if over, _, _ := parley.Match(a, common); ok && over != api.Yes {
				t.Errorf("P5, P6: %q comes of %q, but Match says %d", common, a, over)
			}
		}
	}
}

var (
	leaves = []string{"a", "b", "1", "01", "2", "X", "Y", "Z", "X", "Y", "Z", "W"}
	names  = []string{"f", "g", "h"}
)

func randomTerm(random *rand.Rand, deep int) string {
	if deep == 1 || random.Intn(4) == 0 {
		return leaves[random.Intn(len(leaves))]
	}
	word := names[random.Intn(len(names))]
	text := word + "(" + randomTerm(random, deep-1)
	for i := random.Intn(3); i > 0; i-- {
		text += "," + blanks(random) + randomTerm(random, deep-1)
	}
	return text + ")"
}

// alike takes a term and puts other words and terms at some places, so that most of the two is the same.
func alike(random *rand.Rand, t term, deep int) string {
	switch {
	case random.Intn(6) == 0:
		return []string{"X", "Y", "Z", "W"}[random.Intn(4)]
	case t.isVariable() && random.Intn(2) == 0, random.Intn(20) == 0:
		return randomTerm(random, min(deep, 3))
	case len(t.args) == 0:
		return t.text
	}
	var args []string
	for _, arg := range t.args {
		args = append(args, alike(random, arg, deep-1))
	}
	return t.text + "(" + strings.Join(args, ",") + ")"
}

func TestRandomTerms(t *testing.T) {
	random := rand.New(rand.NewSource(3))
	unifies, matches := map[api.Errno]int{}, map[int]int{}
	commons := 0
	for i := 0; i < 10000; i++ {
		a := randomTerm(random, 2+random.Intn(4))
		b := alike(random, parse(a), 8)
		ofUnify, ofMatch := compareTerms(t, a, b)
		if t.Failed() {
			return
		}
		unifies[ofUnify.errno]++
		matches[ofMatch.says]++
		if ofUnify.ok {
			commons++
		}
	}
	for _, count := range []int{unifies[api.OK] - commons, commons, matches[api.Yes], matches[api.No], matches[api.Wait]} {
		if count < 100 {
			t.Errorf("some answer came only %d times: %v, %v, %d", count, unifies, matches, commons)
		}
	}
}

// Variables that stand for one another across a list: terms that stand within themselves, and great ones.
func TestRandomChains(t *testing.T) {
	random := rand.New(rand.NewSource(4))
	met := map[unified]int{}
	for i := 0; i < 4000; i++ {
		a, b := "a", "a"
		for len(a) < 45 && len(b) < 45 {
			x, y := chainLink(random, "ABCDE"), chainLink(random, "XYZW")
			a, b = "f("+x+","+a+")", "f("+y+","+b+")"
			if random.Intn(12) == 0 {
				break
			}
		}
		got, _ := compareTerms(t, a, b)
		if t.Failed() {
			return
		}
		got.text = ""
		met[got]++
	}
	for _, want := range []unified{{"", true, api.OK}, {"", false, api.OK}, {"", false, api.ErrLarge}} {
		if met[want] < 100 {
			t.Errorf("%+v came only %d times", want, met[want])
		}
	}
}

func chainLink(random *rand.Rand, variables string) string {
	x := string(variables[random.Intn(len(variables))])
	y := string(variables[random.Intn(len(variables))])
	return []string{x, x, x, "g(" + x + "," + y + ")", "g(" + x + "," + x + "," + x + ")"}[random.Intn(5)]
}

// Bytes put into, taken from and changed in terms: most of what comes is wrong somewhere.
func TestSpoiltTerms(t *testing.T) {
	random := rand.New(rand.NewSource(5))
	terms := []string{"f(X,g(Y,123456),a)", "f(f(f(f(f(f(f(a)))))))", "X", "f(a,b,c)", "h(A,B,A)", strings.Repeat("f(a,b,", 7) + "c" + strings.Repeat(")", 7), " f ( X ,\n1 ) "}
	signs := " \n:-=\\<+*(),|.aZ09;\t\x00\xff"
	for i := 0; i < 8000; i++ {
		a := terms[random.Intn(len(terms))]
		b := spoilt(random, terms[i%len(terms)], signs)
		if i%2 == 0 {
			a, b = b, a
		}
		if compareTerms(t, a, b); t.Failed() {
			return
		}
	}
}

func TestBeginningsOfTerms(t *testing.T) {
	for _, text := range []string{"f ( X , g(Y,123456,Z) , a )", "f(f(f(f(f(f(f(f(X))))))))", "f(a,b,c,d)", "1234567", "Xyz(a)"} {
		for end := 0; end <= len(text); end++ {
			compareTerms(t, text[:end], "X")
			compareTerms(t, "X", text[:end])
		}
	}
}
