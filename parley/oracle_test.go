package parley_test

import (
	"regexp"
	"strings"

	"parley/api"
)

// What stands here answers P3 and P4 in another way than the program does: the document's words as a grammar, and a token may stand where it stands if Earley's way of reading can take it.

type rule struct {
	left  string
	right []string
}

// A terminal is a sign, or one of `name` (but int), `int`, `Var`, `1`.
var grammar = makeGrammar(`
Program = Clause ; Program Clause
Lone = Term
Query = Goals
Clause = Head . ; Head :- Goals . ; Head :- Tests | Goals .
Head = Call
Call = Word ; Word ( Terms )
Word = name ; int
Terms = Term ; Terms , Term
Term = Var ; 1 ; Call
Tests = Test ; Tests , Test
Test = Term < Term ; Term =< Term ; Term == Term ; Term \= Term ; int ( Term )
Goals = Goal ; Goals , Goal
Goal = Term = Term ; Var := Operand ; Var := Operand + Operand ; Var := Operand - Operand ; Var := Operand * Operand ; Call
Operand = Var ; 1
`)

func makeGrammar(text string) []rule {
	var rules []rule
	for _, line := range strings.Split(strings.TrimSpace(text), "\n") {
		left, rights, _ := strings.Cut(line, " = ")
		for _, right := range strings.Split(rights, " ; ") {
			rules = append(rules, rule{left, strings.Fields(right)})
		}
	}
	return rules
}

type state struct{ rule, dot, from int }

// reading is what can be going on behind each token that has been taken.
type reading [][]state

func beginReading(start string) reading {
	var first []state
	for i, r := range grammar {
		if r.left == start {
			first = append(first, state{i, 0, 0})
		}
	}
	return closed(reading{first})
}

func closed(sets reading) reading {
	last := len(sets) - 1
	seen := map[state]bool{}
	for _, s := range sets[last] {
		seen[s] = true
	}
	add := func(s state) {
		if !seen[s] {
			seen[s] = true
			sets[last] = append(sets[last], s)
		}
	}
	for i := 0; i < len(sets[last]); i++ {
		s := sets[last][i]
		right := grammar[s.rule].right
		if s.dot == len(right) {
			for _, waiting := range sets[s.from] {
				behind := grammar[waiting.rule].right
				if waiting.dot < len(behind) && behind[waiting.dot] == grammar[s.rule].left {
					add(state{waiting.rule, waiting.dot + 1, waiting.from})
				}
			}
			continue
		}
		for j, r := range grammar {
			if r.left == right[s.dot] {
				add(state{j, 0, last})
			}
		}
	}
	return sets
}

// with answers the reading behind one more token, and whether that token may stand there.
func (sets reading) with(terminal string) (reading, bool) {
	var next []state
	for _, s := range sets[len(sets)-1] {
		right := grammar[s.rule].right
		if s.dot < len(right) && right[s.dot] == terminal {
			next = append(next, state{s.rule, s.dot + 1, s.from})
		}
	}
	if next == nil {
		return sets, false
	}
	return closed(append(sets[:len(sets):len(sets)], next)), true
}

func (sets reading) complete(start string) bool {
	if len(sets) == 1 {
		return start == "Program" // which may be empty
	}
	for _, s := range sets[len(sets)-1] {
		r := grammar[s.rule]
		if r.left == start && s.from == 0 && s.dot == len(r.right) {
			return true
		}
	}
	return false
}

type token struct {
	text     string
	at       int
	terminal string // "" for a byte that begins no token
}

var (
	tokenForm = regexp.MustCompile(`^(?:[a-z][a-z0-9]*|[A-Z][A-Za-z0-9]*|[0-9]+|:-|:=|==|\\=|=<|[=<+\-*(),|.])`)
	blankForm = regexp.MustCompile(`^[ \n]*`)
)

func terminalOf(text string) string {
	switch {
	case text == "":
		return ""
	case text == "int":
		return "int"
	case text[0] >= 'a' && text[0] <= 'z':
		return "name"
	case text[0] >= 'A' && text[0] <= 'Z':
		return "Var"
	case text[0] >= '0' && text[0] <= '9':
		return "1"
	}
	return text
}

// tokensOf ends at the first byte that begins no token.
func tokensOf(text string) []token {
	var tokens []token
	at := 0
	for {
		at += len(blankForm.FindString(text[at:]))
		if at == len(text) {
			return tokens
		}
		found := tokenForm.FindString(text[at:])
		tokens = append(tokens, token{found, at, terminalOf(found)})
		if found == "" {
			return tokens
		}
		at += len(found)
	}
}

// counts is what the bounds are about: the brackets that are open, the commas at each level, the clauses.
type counts struct {
	commas  []int
	clauses int
	begins  bool // no token of this clause has been met
}

// over tells whether the token passes a bound, and counts it.
func (c *counts) over(t token) bool {
	level := len(c.commas) - 1
	isTerm := t.terminal == "name" || t.terminal == "int" || t.terminal == "Var" || t.terminal == "1"
	over := t.terminal == "1" && len(t.text) > api.MaxDigits || isTerm && level+1 > api.MaxDeep || c.begins && c.clauses == api.MaxClauses
	c.begins = false
	switch t.text {
	case "(":
		c.commas = append(c.commas, 0)
	case ")":
		c.commas = c.commas[:level]
	case ":-", "|":
		c.commas[level] = 0
	case ",":
		c.commas[level]++
		over = over || level == 0 && c.commas[level] == api.MaxParts || level > 0 && c.commas[level] == api.MaxArgs
	case ".":
		c.clauses++
		c.begins = true
		c.commas[level] = 0
	}
	return over
}

func oracleCheck(text string) (api.Errno, int) {
	return oracleRead(text, "Program", api.MaxProgram)
}

// oracleRead reads a text as what start says.
func oracleRead(text string, start string, most int) (api.Errno, int) {
	if len(text) > most {
		return api.ErrLong, 0
	}
	sets := beginReading(start)
	count := counts{commas: []int{0}, begins: true}
	for _, t := range tokensOf(text) {
		next, may := sets.with(t.terminal)
		if !may {
			return api.ErrSyntax, t.at
		}
		if count.over(t) {
			return api.ErrBig, t.at
		}
		sets = next
	}
	if !sets.complete(start) {
		return api.ErrSyntax, len(text)
	}
	return api.OK, 0
}

// oracleShow goes by the tokens alone; the text is known to be a program.
func oracleShow(text string) string {
	var shown strings.Builder
	names := map[string]string{}
	level := 0
	for _, t := range tokensOf(text) {
		switch {
		case t.terminal == "Var":
			if names[t.text] == "" {
				names[t.text] = "V" + decimal(len(names))
			}
			shown.WriteString(names[t.text])
		case t.terminal == "1":
			digits := strings.TrimLeft(t.text, "0")
			if digits == "" {
				digits = "0"
			}
			shown.WriteString(digits)
		case t.text == ":-" || t.text == "|":
			shown.WriteString(" " + t.text + " ")
		case t.text == "," && level == 0:
			shown.WriteString(", ")
		case t.text == ".":
			shown.WriteString(".\n")
			names = map[string]string{}
		default:
			shown.WriteString(t.text)
		}
		level += strings.Count(t.text, "(") - strings.Count(t.text, ")")
	}
	return shown.String()
}

func decimal(n int) string {
	if n < 10 {
		return "0123456789"[n : n+1]
	}
	return decimal(n/10) + decimal(n%10)
}
