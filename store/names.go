package store

import "parley/tree"

// Names gives the variables without a value their numbers, from 0 on, in the order in which they are met.
type Names struct {
	met []int
}

func (names *Names) number(n int) int {
	for i, known := range names.met {
		if known == n {
			return i
		}
	}
	names.met = append(names.met, n)
	return len(names.met) - 1
}

// Tree answers what a node stands for, place by place: that may be great, so ask for the size first.
func (s *Store) Tree(n int, names *Names) tree.Term {
	label := s.Label(n)
	if label.Kind == tree.Variable {
		front := s.Front(n)
		return tree.Term{Kind: tree.Variable, Value: names.number(front)}
	}
	term := tree.Term{Kind: label.Kind, Value: label.Value, Text: label.Text}
	for _, arg := range s.Args(n) {
		below := s.Tree(arg, names)
		term.Args = append(term.Args, below)
	}
	return term
}
