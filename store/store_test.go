package store

import (
	"reflect"
	"testing"

	"parley/tree"
)

func variable(which int) tree.Term { return tree.Term{Kind: tree.Variable, Value: which} }
func number(value int) tree.Term   { return tree.Term{Kind: tree.Number, Value: value} }

func name(text string, args ...tree.Term) tree.Term {
	return tree.Term{Kind: tree.Name, Text: text, Args: args}
}

func TestWhatWasLaidInComesOut(t *testing.T) {
	for _, term := range []tree.Term{
		variable(0), number(7), number(-7), name("a"), name("f", variable(0), name("g", number(1), variable(1)), variable(0)),
	} {
		var s Store
		n := s.Add(term, &Scope{})
		if got := s.Tree(n, &Names{}); !reflect.DeepEqual(got, term) {
			t.Errorf("%+v came out as %+v", term, got)
		}
	}
}

func TestVariablesAreMadeWhenTheyAreMet(t *testing.T) {
	var s Store
	var scope Scope
	first := s.Add(name("f", variable(0), name("g", variable(1)), variable(0)), &scope)
	second := s.Add(name("f", variable(1), variable(2)), &scope)
	if len(scope.Nodes) != 3 || scope.Nodes[0] >= scope.Nodes[1] || scope.Nodes[1] >= scope.Nodes[2] {
		t.Errorf("%v", scope.Nodes)
	}
	args, others := s.Args(first), s.Args(second)
	if args[0] != scope.Nodes[0] || args[2] != scope.Nodes[0] || others[0] != scope.Nodes[1] || others[1] != scope.Nodes[2] || s.Args(args[1])[0] != scope.Nodes[1] {
		t.Errorf("%v: %v, %v", scope.Nodes, args, others)
	}
}

// A scope may be made beforehand, of any nodes.
func TestVariablesThatStandForTerms(t *testing.T) {
	var s Store
	a := s.Add(name("a"), &Scope{})
	scope := Scope{Nodes: []int{a}}
	n := s.Add(name("f", variable(0), variable(1)), &scope)
	if got, want := s.Tree(n, &Names{}), name("f", name("a"), variable(0)); !reflect.DeepEqual(got, want) {
		t.Errorf("%+v, want %+v", got, want)
	}
}

func TestTheLaterVariableGetsTheEarlierOne(t *testing.T) {
	for _, pair := range [][2]int{{0, 1}, {1, 0}} {
		var s Store
		x := s.Add(variable(0), &Scope{})
		y := s.Add(variable(0), &Scope{})
		both := []int{x, y}
		if !s.Unify(both[pair[0]], both[pair[1]]) || s.Front(x) != x || s.Front(y) != x {
			t.Errorf("%d and %d: the fronts are %d and %d", both[pair[0]], both[pair[1]], s.Front(x), s.Front(y))
		}
	}
}

func TestOfMoreVariablesTheEarliestIsLeft(t *testing.T) {
	for _, pairs := range [][][2]int{{{0, 1}, {1, 2}, {2, 3}}, {{3, 2}, {2, 1}, {1, 0}}, {{1, 3}, {0, 2}, {3, 2}}, {{2, 3}, {1, 2}, {0, 3}}} {
		var s Store
		var scope Scope
		s.Add(variable(3), &scope)
		for _, pair := range pairs {
			s.Unify(scope.Nodes[pair[0]], scope.Nodes[pair[1]])
		}
		for _, n := range scope.Nodes {
			if s.Front(n) != scope.Nodes[0] {
				t.Errorf("%v: the front of %d is %d", pairs, n, s.Front(n))
			}
		}
	}
}

func TestVariablesThatGotValues(t *testing.T) {
	var s Store
	var scope Scope
	left := s.Add(name("f", variable(0), variable(1), variable(2)), &scope)
	right := s.Add(name("f", variable(1), name("g", variable(2)), number(5)), &scope)
	if !s.Unify(left, right) {
		t.Fatal("there is one that comes of both")
	}
	want := name("f", name("g", number(5)), name("g", number(5)), number(5))
	for _, n := range []int{left, right} {
		if got := s.Tree(n, &Names{}); !reflect.DeepEqual(got, want) {
			t.Errorf("%+v, want %+v", got, want)
		}
	}
	if got := s.Label(scope.Nodes[0]); got != (tree.Label{Kind: tree.Name, Text: "g", Count: 1}) {
		t.Errorf("%+v", got)
	}
}

func TestTermsThatCannotBeMadeOne(t *testing.T) {
	for _, c := range [][2]tree.Term{
		{name("a"), name("b")}, {name("a"), number(0)}, {number(1), number(2)}, {name("f", variable(0)), name("f")}, {name("f", variable(0), variable(0)), name("f", name("a"), name("b"))},
		// the scope is one, so these would stand within themselves
		{variable(0), name("f", variable(0))}, {name("f", variable(0)), variable(0)}, {name("f", variable(0), variable(1)), name("f", name("g", variable(1)), name("g", variable(0)))}, {name("f", name("a"), variable(0)), name("f", name("a"), name("g", name("g", variable(0))))},
	} {
		var s Store
		var scope Scope
		left := s.Add(c[0], &scope)
		right := s.Add(c[1], &scope)
		if s.Unify(left, right) {
			t.Errorf("%+v and %+v were made one", c[0], c[1])
		}
	}
}

// A term that got round to itself by an earlier value.
func TestNothingStandsWithinItselfByManySteps(t *testing.T) {
	var s Store
	var scope Scope
	s.Add(variable(2), &scope)
	x, y, z := scope.Nodes[0], scope.Nodes[1], scope.Nodes[2]
	fy := s.Add(name("f", variable(1)), &scope)
	fz := s.Add(name("f", variable(2)), &scope)
	fx := s.Add(name("f", variable(0)), &scope)
	first := s.Unify(x, fy)
	second := s.Unify(y, fz)
	third := s.Unify(z, fx)
	if !first || !second || third {
		t.Errorf("%v, %v, %v, want true, true, false", first, second, third)
	}
}

// chain makes each of many variables stand for f of the next one, twice: 2 to the power of length places. It answers the first one.
func chain(s *Store, length int, end tree.Term) int {
	var scope Scope
	for i := 0; i < length; i++ {
		x := s.Add(variable(i), &scope)
		doubled := s.Add(name("f", variable(i+1), variable(i+1)), &scope)
		s.Unify(x, doubled)
	}
	last := s.Add(variable(length), &scope)
	s.Unify(last, s.Add(end, &Scope{}))
	return scope.Nodes[0]
}

func TestTermsGreatBeyondMeasure(t *testing.T) {
	var s Store
	one := chain(&s, 200, variable(0))
	other := chain(&s, 200, name("a"))
	third := chain(&s, 200, name("b"))
	if size := s.Size(one, 40); size != 41 {
		t.Errorf("the size is cut to %d, want 41", size)
	}
	if !s.Unify(one, other) {
		t.Error("the two could not be made one")
	}
	if s.Unify(one, third) {
		t.Error("a and b were made one")
	}
}

func TestSizes(t *testing.T) {
	var s Store
	for _, c := range []struct {
		term tree.Term
		size int
	}{
		{variable(0), 1}, {number(123456), 1}, {name("abc"), 1}, {name("f", name("a")), 2}, {name("f", variable(0), variable(0), variable(0)), 4}, {name("f", name("g", number(1), number(1)), name("g", name("a"))), 6},
	} {
		n := s.Add(c.term, &Scope{})
		for most := 0; most < 9; most++ {
			want := min(c.size, most+1)
			if size := s.Size(n, most); size != want {
				t.Errorf("%+v, at most %d: %d, want %d", c.term, most, size, want)
			}
		}
	}
}

func TestNamesGoOnFromTermToTerm(t *testing.T) {
	var s Store
	var scope Scope
	first := s.Add(name("f", variable(1), variable(0)), &scope)
	second := s.Add(name("g", variable(2), variable(0), variable(1)), &scope)
	var names Names
	if got, want := s.Tree(first, &names), name("f", variable(0), variable(1)); !reflect.DeepEqual(got, want) {
		t.Errorf("%+v, want %+v", got, want)
	}
	if got, want := s.Tree(second, &names), name("g", variable(2), variable(1), variable(0)); !reflect.DeepEqual(got, want) {
		t.Errorf("%+v, want %+v", got, want)
	}
}

// What is no node is an empty label without arguments, and nothing comes of it.
func TestNumbersThatAreNoNodes(t *testing.T) {
	var s Store
	s.Add(name("a"), &Scope{})
	for _, n := range []int{None, 1, 1 << 40, -1 << 40} {
		if s.Front(n) != n || s.Label(n) != (tree.Label{}) || s.Args(n) != nil || s.Unify(n, 0) || s.Unify(0, n) || !s.Unify(n, n) || s.Size(n, 40) != 1 {
			t.Errorf("%d is taken for a node", n)
		}
	}
	if n := s.Add(variable(-1), &Scope{}); n != None {
		t.Errorf("a variable below the first one is the node %d", n)
	}
}
