// Package show writes trees in the one way that the document asks for.
package show

import (
	"strconv"

	"parley/tree"
)

// Program writes clauses, a line each.
func Program(clauses []tree.Clause) string {
	text := ""
	for _, clause := range clauses {
		text += Clause(clause)
		text += "\n"
	}
	return text
}

// Clause writes a clause without a line end.
func Clause(clause tree.Clause) string {
	text := Term(clause.Head)
	if len(clause.Goals) > 0 {
		text += " :- "
	}
	if len(clause.Tests) > 0 {
		text += Items(clause.Tests)
		text += " | "
	}
	text += Items(clause.Goals)
	return text + "."
}

// Items writes tests or goals, with `,` and a space between.
func Items(items []tree.Item) string {
	text := ""
	for i, item := range items {
		if i > 0 {
			text += ", "
		}
		text += Item(item)
	}
	return text
}

// Item writes a test or a goal.
func Item(item tree.Item) string {
	text := Term(item.Left)
	if item.Sign == "" {
		return text
	}
	text += item.Sign
	text += Term(item.Right)
	if item.Op == "" {
		return text
	}
	text += item.Op
	return text + Term(item.Last)
}

// Term writes a term; its variables are called by their numbers.
func Term(term tree.Term) string {
	switch term.Kind {
	case tree.Variable:
		return "V" + strconv.Itoa(term.Value)
	case tree.Number:
		return strconv.Itoa(term.Value)
	}
	if len(term.Args) == 0 {
		return term.Text
	}
	text := term.Text + "("
	for i, arg := range term.Args {
		if i > 0 {
			text += ","
		}
		text += Term(arg)
	}
	return text + ")"
}
