// Package store keeps terms whose variables can get values.
package store

import "parley/tree"

// None is no node.
const None = -1

// What stands at several places is kept once: a few nodes may stand for a term that is great beyond measure.
type node struct {
	label tree.Label
	args  []int
	next  int // the node that it was made one with, or itself
	mark  int // how far a walk has come with it
}

// Store is terms as nodes, which are called by their numbers, from 0 on. Of two variables the one that was made earlier has the lower number.
type Store struct {
	nodes []node
}

// Scope is the nodes that the variables of a text stand for, by the variables' numbers.
type Scope struct {
	Nodes []int
}

// Add lays a term into the store and answers its node. A variable that the scope does not have yet is made when it is met, so from left to right.
func (s *Store) Add(term tree.Term, scope *Scope) int {
	if term.Kind == tree.Variable {
		return s.variable(term.Value, scope)
	}
	var args []int
	for _, arg := range term.Args {
		n := s.Add(arg, scope)
		args = append(args, n)
	}
	made := len(s.nodes)
	s.nodes = append(s.nodes, node{label: term.Label(), args: args, next: made})
	return made
}

func (s *Store) variable(which int, scope *Scope) int {
	for which >= len(scope.Nodes) {
		made := len(s.nodes)
		s.nodes = append(s.nodes, node{label: tree.Label{Kind: tree.Variable}, next: made})
		scope.Nodes = append(scope.Nodes, made)
	}
	if which < 0 {
		return None
	}
	return scope.Nodes[which]
}

func (s *Store) has(n int) bool {
	return n >= 0 && n < len(s.nodes)
}

// Front answers the node that stands for all those that were made one with this one: a variable only if it has no value.
func (s *Store) Front(n int) int {
	front := n
	// None but a front is ever linked, and to another front, so no way leads round.
	for s.has(front) && s.nodes[front].next != front {
		front = s.nodes[front].next
	}
	return front
}

// Label answers the label of what a node stands for.
func (s *Store) Label(n int) tree.Label {
	front := s.Front(n)
	if !s.has(front) {
		return tree.Label{}
	}
	return s.nodes[front].label
}

// Args answers the arguments of what a node stands for.
func (s *Store) Args(n int) []int {
	front := s.Front(n)
	if !s.has(front) {
		return nil
	}
	return s.nodes[front].args
}

// Size answers the size of what a node stands for or, if that is above most, most+1: it looks no further, since the size may be beyond all numbers.
func (s *Store) Size(n int, most int) int {
	size := 1
	for _, arg := range s.Args(n) {
		if size > most {
			return size
		}
		size += s.Size(arg, most-size)
	}
	return size
}
