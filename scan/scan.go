// Package scan cuts a text into tokens.
package scan

// The kinds of tokens. End and Bad are no tokens of the document: they stand for what a reader finds where there is none.
const (
	End      = 0 // the text ends here
	Bad      = 1 // a byte that begins no token
	Name     = 2
	Variable = 3
	Number   = 4
	Sign     = 5
)

// Token is what stands at a place of a text.
type Token struct {
	Kind int
	At   int    // the place of its first byte; at the end, the text's length
	Text string // its bytes; empty at the end alone, so that a reader always gets on
}

// Each of these is looked for ahead of the short ones, since the longest sign that stands there is the one that counts.
var longSigns = [5]string{":-", ":=", "==", "\\=", "=<"}

const shortSigns = "=<+-*(),|."

// Next answers the first token that stands at the place from or behind it.
func Next(text string, from int) Token {
	at := skipBlanks(text, from)
	if at >= len(text) {
		return Token{Kind: End, At: len(text)}
	}
	rest := text[at:]
	kind := kindOf(rest)
	length := lengthOf(kind, rest)
	return Token{Kind: kind, At: at, Text: rest[:length]}
}

func skipBlanks(text string, from int) int {
	at := from
	if at < 0 {
		at = 0
	}
	for at < len(text) && isBlank(text[at]) {
		at++
	}
	return at
}

func kindOf(rest string) int {
	if rest == "" {
		return End
	}
	first := rest[0]
	switch {
	case isSmall(first):
		return Name
	case isCapital(first):
		return Variable
	case isDigit(first):
		return Number
	case signLength(rest) > 0:
		return Sign
	}
	return Bad
}

func lengthOf(kind int, rest string) int {
	switch kind {
	case Name, Variable, Number:
		return wordLength(kind, rest)
	case Sign:
		return signLength(rest)
	case Bad:
		return 1
	}
	return 0
}

func wordLength(kind int, rest string) int {
	length := 0
	for length < len(rest) && goesOn(kind, rest[length]) {
		length++
	}
	return length
}

// goesOn tells whether a byte may stand within a word of this kind, its first byte aside.
func goesOn(kind int, b byte) bool {
	switch kind {
	case Name:
		return isSmall(b) || isDigit(b)
	case Variable:
		return isSmall(b) || isDigit(b) || isCapital(b)
	}
	return isDigit(b)
}

func signLength(rest string) int {
	for _, sign := range longSigns {
		if len(rest) >= 2 && rest[:2] == sign {
			return 2
		}
	}
	for i := 0; i < len(shortSigns); i++ {
		if rest != "" && rest[0] == shortSigns[i] {
			return 1
		}
	}
	return 0
}

func isBlank(b byte) bool   { return b == ' ' || b == '\n' }
func isSmall(b byte) bool   { return b >= 'a' && b <= 'z' }
func isCapital(b byte) bool { return b >= 'A' && b <= 'Z' }
func isDigit(b byte) bool   { return b >= '0' && b <= '9' }
