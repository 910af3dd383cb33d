package scan

import (
	"strings"
	"testing"
)

func allTokens(text string) []Token {
	var tokens []Token
	at := 0
	for {
		token := Next(text, at)
		tokens = append(tokens, token)
		if token.Kind == End {
			return tokens
		}
		at = token.At + len(token.Text)
	}
}

func TestTokensOfTexts(t *testing.T) {
	for _, c := range []struct {
		text string
		want []Token
	}{
		{"", []Token{{End, 0, ""}}},
		{" \n ", []Token{{End, 3, ""}}},
		{"ab1 Xy2Z\n007", []Token{{Name, 0, "ab1"}, {Variable, 4, "Xy2Z"}, {Number, 9, "007"}, {End, 12, ""}}},
		{"aB", []Token{{Name, 0, "a"}, {Variable, 1, "B"}, {End, 2, ""}}},
		{"1a2", []Token{{Number, 0, "1"}, {Name, 1, "a2"}, {End, 3, ""}}},
		{":-:=", []Token{{Sign, 0, ":-"}, {Sign, 2, ":="}, {End, 4, ""}}},
		{"===<", []Token{{Sign, 0, "=="}, {Sign, 2, "=<"}, {End, 4, ""}}},
		{"==<", []Token{{Sign, 0, "=="}, {Sign, 2, "<"}, {End, 3, ""}}},
		{"=<=", []Token{{Sign, 0, "=<"}, {Sign, 2, "="}, {End, 3, ""}}},
		{"<==", []Token{{Sign, 0, "<"}, {Sign, 1, "=="}, {End, 3, ""}}},
		{"=\\=", []Token{{Sign, 0, "="}, {Sign, 1, "\\="}, {End, 3, ""}}},
		{"= =", []Token{{Sign, 0, "="}, {Sign, 2, "="}, {End, 3, ""}}},
		{": -", []Token{{Bad, 0, ":"}, {Sign, 2, "-"}, {End, 3, ""}}},
		{"a:", []Token{{Name, 0, "a"}, {Bad, 1, ":"}, {End, 2, ""}}},
		{"a\\", []Token{{Name, 0, "a"}, {Bad, 1, "\\"}, {End, 2, ""}}},
		{"a\tb", []Token{{Name, 0, "a"}, {Bad, 1, "\t"}, {Name, 2, "b"}, {End, 3, ""}}},
		{"+-*(),|.", []Token{{Sign, 0, "+"}, {Sign, 1, "-"}, {Sign, 2, "*"}, {Sign, 3, "("}, {Sign, 4, ")"}, {Sign, 5, ","}, {Sign, 6, "|"}, {Sign, 7, "."}, {End, 8, ""}}},
	} {
		got := allTokens(c.text)
		if len(got) != len(c.want) {
			t.Errorf("%q: %v, want %v", c.text, got, c.want)
			continue
		}
		for i, token := range got {
			if token != c.want[i] {
				t.Errorf("%q: token %d is %v, want %v", c.text, i, token, c.want[i])
			}
		}
	}
}

func TestKindOfEachByte(t *testing.T) {
	for b := 0; b < 256; b++ {
		text := string([]byte{byte(b)})
		want := Bad
		switch {
		case strings.Contains("abcdefghijklmnopqrstuvwxyz", text):
			want = Name
		case strings.Contains("ABCDEFGHIJKLMNOPQRSTUVWXYZ", text):
			want = Variable
		case strings.Contains("0123456789", text):
			want = Number
		case strings.Contains("=<+-*(),|.", text):
			want = Sign
		case text == " " || text == "\n":
			want = End
		}
		if got := Next(text, 0); got.Kind != want {
			t.Errorf("byte %d: kind %d, want %d", b, got.Kind, want)
		}
	}
}

func TestPlacesOutsideTheText(t *testing.T) {
	if got := Next("ab", -3); got != (Token{Name, 0, "ab"}) {
		t.Errorf("ahead of the text: %v", got)
	}
	if got := Next("ab", 7); got != (Token{End, 2, ""}) {
		t.Errorf("behind the text: %v", got)
	}
}
