package store

import "parley/tree"

// Unify makes two nodes one, and tells whether there is a term that comes of both. If there is none, the store is of no use any more.
func (s *Store) Unify(a int, b int) bool {
	if !s.join(a, b) {
		return false
	}
	return s.isFinite(a)
}

// join leaves it aside whether a term stands within itself. It links names too, not variables alone: with each link there is one front fewer, so it ends even then.
func (s *Store) join(a int, b int) bool {
	first := s.Front(a)
	second := s.Front(b)
	if first == second {
		return true
	}
	one := s.Label(first)
	other := s.Label(second)
	switch {
	case one.Kind == tree.Variable && other.Kind == tree.Variable:
		s.linkLater(first, second)
		return true
	case one.Kind == tree.Variable:
		s.link(first, second)
		return true
	case other.Kind == tree.Variable:
		s.link(second, first)
		return true
	case one != other:
		return false
	}
	ours := s.Args(first)
	theirs := s.Args(second)
	s.link(second, first)
	return s.joinAll(ours, theirs)
}

func (s *Store) joinAll(ours []int, theirs []int) bool {
	for i := 0; i < len(ours) && i < len(theirs); i++ {
		if !s.join(ours[i], theirs[i]) {
			return false
		}
	}
	return true
}

// linkLater gives the variable that was made later the earlier one as its value.
func (s *Store) linkLater(a int, b int) {
	if a < b {
		s.link(b, a)
		return
	}
	s.link(a, b)
}

func (s *Store) link(from int, to int) {
	if s.has(from) {
		s.nodes[from].next = to
	}
}

// How far a walk has come with a node.
const (
	unseen = 0
	open   = 1 // the walk is among its arguments
	done   = 2
)

// isFinite tells whether nothing stands within itself in what a node stands for.
func (s *Store) isFinite(n int) bool {
	for i := range s.nodes {
		s.nodes[i].mark = unseen
	}
	return s.walk(n)
}

// walk comes to each node once, however often the node stands in the term.
func (s *Store) walk(n int) bool {
	front := s.Front(n)
	if !s.has(front) {
		return true
	}
	if s.nodes[front].mark != unseen {
		return s.nodes[front].mark == done
	}
	s.nodes[front].mark = open
	for _, arg := range s.Args(front) {
		if !s.walk(arg) {
			return false
		}
	}
	s.nodes[front].mark = done
	return true
}
