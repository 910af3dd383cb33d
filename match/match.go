// Package match goes through terms and waits for their variables, but gives them no values.
package match

import (
	"parley/api"
	"parley/store"
	"parley/tree"
)

// Look is what has been found so far.
type Look struct {
	Stands []int // the nodes that the variables of the pattern stand for, by the variables' numbers; store.None where one has not been met
	Waits  []int // the variables that are waited for, each once
	No     bool  // something differs
}

// Says answers Yes, No or Wait; No goes ahead of Wait wherever it was found.
func (l *Look) Says() int {
	switch {
	case l.No:
		return api.No
	case len(l.Waits) > 0:
		return api.Wait
	}
	return api.Yes
}

// WaitsFor tells whether a variable is waited for.
func (l *Look) WaitsFor(variable int) bool {
	for _, known := range l.Waits {
		if known == variable {
			return true
		}
	}
	return false
}

func (l *Look) wait(variable int) {
	if !l.WaitsFor(variable) {
		l.Waits = append(l.Waits, variable)
	}
}

// Await waits for what a node stands for, if that is a variable without a value.
func (l *Look) Await(s *store.Store, n int) {
	label := s.Label(n)
	if label.Kind == tree.Variable {
		front := s.Front(n)
		l.wait(front)
	}
}

// Also adds what another look has found, but for what its variables stand for.
func (l *Look) Also(other Look) {
	l.No = l.No || other.No
	for _, variable := range other.Waits {
		l.wait(variable)
	}
}

// Match goes through a pattern and a term together.
func (l *Look) Match(s *store.Store, pattern tree.Term, term int) {
	if pattern.Kind == tree.Variable {
		l.meet(s, pattern.Value, term)
		return
	}
	label := s.Label(term)
	if label.Kind == tree.Variable {
		l.Await(s, term)
		return
	}
	if pattern.Label() != label {
		l.No = true
		return
	}
	args := s.Args(term)
	for i := 0; i < len(pattern.Args) && i < len(args); i++ {
		l.Match(s, pattern.Args[i], args[i])
	}
}

// meet is for a variable of the pattern and what the term has there.
func (l *Look) meet(s *store.Store, which int, term int) {
	for which >= len(l.Stands) {
		l.Stands = append(l.Stands, store.None)
	}
	if which < 0 {
		return
	}
	known := l.Stands[which]
	if known == store.None {
		l.Stands[which] = term
		return
	}
	l.Compare(s, known, term)
}

// Compare goes through two terms together.
func (l *Look) Compare(s *store.Store, a int, b int) {
	first := s.Front(a)
	second := s.Front(b)
	if first == second {
		return
	}
	one := s.Label(first)
	other := s.Label(second)
	l.Await(s, first)
	l.Await(s, second)
	if one.Kind == tree.Variable || other.Kind == tree.Variable {
		return
	}
	if one != other {
		l.No = true
		return
	}
	ours := s.Args(first)
	theirs := s.Args(second)
	for i := 0; i < len(ours) && i < len(theirs); i++ {
		l.Compare(s, ours[i], theirs[i])
	}
}
