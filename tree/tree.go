// Package tree: what a text says, once it has been read.
package tree

// The kinds of terms.
const (
	Variable = 1
	Number   = 2
	Name     = 3
)

// Term is a variable, a number, or a name with arguments or without.
type Term struct {
	Kind  int
	Value int    // what a number is; which one a variable is, from 0 on, in the order in which they first stand
	Text  string // of a name
	Args  []Term // of a name
}

// Label is what two terms that are no variables must have alike, their arguments aside, to be the same.
type Label struct {
	Kind  int
	Value int // of a number
	Text  string
	Count int // of arguments
}

// Label answers the term's label.
func (t Term) Label() Label {
	label := Label{Kind: t.Kind, Text: t.Text, Count: len(t.Args)}
	if t.Kind == Number {
		label.Value = t.Value
	}
	return label
}

// Item is a test or a goal. One without a sign is a call or, where tests stand, int(t), and has nothing but Left.
type Item struct {
	Left  Term
	Sign  string // "" or one of < =< == \= = :=
	Right Term
	Op    string // behind := alone: "" or one of + - *
	Last  Term   // what stands behind Op
}

// Clause is a head with its tests and its goals; a clause has tests only if it has goals.
type Clause struct {
	Head  Term
	Tests []Item
	Goals []Item
}
