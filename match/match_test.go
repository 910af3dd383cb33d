package match

import (
	"reflect"
	"testing"

	"parley/api"
	"parley/store"
	"parley/tree"
)

func variable(which int) tree.Term { return tree.Term{Kind: tree.Variable, Value: which} }
func number(value int) tree.Term   { return tree.Term{Kind: tree.Number, Value: value} }

func name(text string, args ...tree.Term) tree.Term {
	return tree.Term{Kind: tree.Name, Text: text, Args: args}
}

func TestWhatTheVariablesStandFor(t *testing.T) {
	var s store.Store
	whole := s.Add(name("f", name("a"), variable(0), name("g", number(1))), &store.Scope{})
	args := s.Args(whole)
	var look Look
	look.Match(&s, name("f", variable(0), variable(1), name("g", variable(2))), whole)
	want := []int{args[0], args[1], s.Args(args[2])[0]}
	if look.Says() != api.Yes || !reflect.DeepEqual(look.Stands, want) {
		t.Errorf("%d, %v, want %d, %v", look.Says(), look.Stands, api.Yes, want)
	}
}

func TestVariablesThatAreNotMetStandForNothing(t *testing.T) {
	var s store.Store
	whole := s.Add(name("f", variable(0), name("a")), &store.Scope{})
	args := s.Args(whole)
	var look Look
	look.Match(&s, name("f", name("g", variable(0)), variable(1)), whole)
	want := []int{store.None, args[1]}
	if look.Says() != api.Wait || !reflect.DeepEqual(look.Stands, want) || !reflect.DeepEqual(look.Waits, args[:1]) {
		t.Errorf("%d, %v, %v", look.Says(), look.Stands, look.Waits)
	}
}

// A variable that got a value is what it stands for; what is waited for is the one that has none.
func TestValuesAreSeen(t *testing.T) {
	var s store.Store
	var scope store.Scope
	whole := s.Add(name("f", variable(0), variable(1), variable(2)), &scope)
	values := s.Add(name("f", name("a"), variable(2), variable(2)), &scope)
	if !s.Unify(whole, values) {
		t.Fatal("there is one that comes of both")
	}
	for _, c := range []struct {
		pattern tree.Term
		says    int
		waits   []int
	}{
		{name("f", name("a"), variable(0), variable(1)), api.Yes, nil},
		{name("f", name("b"), variable(0), variable(1)), api.No, nil},
		{name("f", variable(0), variable(1), variable(1)), api.Yes, nil},
		{name("f", variable(0), name("b"), name("c")), api.Wait, []int{scope.Nodes[1]}},
		{name("f", variable(0), variable(1), variable(0)), api.Wait, []int{scope.Nodes[1]}},
	} {
		var look Look
		look.Match(&s, c.pattern, whole)
		if look.Says() != c.says || !reflect.DeepEqual(look.Waits, c.waits) {
			t.Errorf("%+v: %d, %v, want %d, %v", c.pattern, look.Says(), look.Waits, c.says, c.waits)
		}
	}
}

func TestCompare(t *testing.T) {
	var s store.Store
	var scope store.Scope
	s.Add(variable(1), &scope)
	x, y := scope.Nodes[0], scope.Nodes[1]
	for _, c := range []struct {
		a, b  tree.Term
		says  int
		waits []int
	}{
		{name("a"), name("a"), api.Yes, nil}, {number(1), number(1), api.Yes, nil}, {variable(0), variable(0), api.Yes, nil}, {name("f", variable(0), number(1)), name("f", variable(0), number(1)), api.Yes, nil},
		{name("a"), name("b"), api.No, nil}, {number(1), number(-1), api.No, nil}, {number(1), name("a"), api.No, nil}, {name("f"), name("f", variable(0)), api.No, nil}, {name("f", variable(0), number(1)), name("f", variable(1), number(2)), api.No, nil}, {name("f", number(1), variable(0)), name("f", number(2), variable(1)), api.No, nil},
		{variable(0), variable(1), api.Wait, []int{x, y}}, {variable(1), variable(0), api.Wait, []int{y, x}}, {variable(0), name("f", variable(1)), api.Wait, []int{x}}, {name("f", variable(1)), variable(0), api.Wait, []int{x}}, {variable(0), name("f", variable(0)), api.Wait, []int{x}}, {name("f", variable(0), variable(0)), name("f", number(1), number(2)), api.Wait, []int{x}},
	} {
		a := s.Add(c.a, &scope)
		b := s.Add(c.b, &scope)
		var look Look
		look.Compare(&s, a, b)
		waits := look.Waits
		if c.says == api.No {
			waits = nil
		}
		if look.Says() != c.says || !reflect.DeepEqual(waits, c.waits) {
			t.Errorf("%+v, %+v: %d, %v, want %d, %v", c.a, c.b, look.Says(), look.Waits, c.says, c.waits)
		}
	}
}

func TestCompareSeesValues(t *testing.T) {
	var s store.Store
	var scope store.Scope
	s.Add(variable(2), &scope)
	x, y, z := scope.Nodes[0], scope.Nodes[1], scope.Nodes[2]
	one := s.Add(number(1), &scope)
	if !s.Unify(x, y) || !s.Unify(z, one) {
		t.Fatal("a variable got no value")
	}
	for _, c := range []struct {
		a, b  int
		waits []int
	}{
		{x, y, nil}, {y, x, nil}, {z, one, nil}, {one, z, nil}, {y, one, []int{x}}, {one, y, []int{x}}, {y, z, []int{x}}, {z, y, []int{x}},
	} {
		var look Look
		look.Compare(&s, c.a, c.b)
		if look.No || !reflect.DeepEqual(look.Waits, c.waits) {
			t.Errorf("%d and %d: %+v, want to wait for %v", c.a, c.b, look, c.waits)
		}
	}
}

// What has been found is kept from one term to the next.
func TestFindingsGoOn(t *testing.T) {
	var s store.Store
	var scope store.Scope
	s.Add(variable(1), &scope)
	one := s.Add(number(1), &scope)
	var look Look
	look.Match(&s, variable(0), scope.Nodes[0])
	look.Match(&s, variable(0), one)
	look.Compare(&s, scope.Nodes[1], one)
	if look.Says() != api.Wait || !reflect.DeepEqual(look.Waits, scope.Nodes) || !look.WaitsFor(scope.Nodes[1]) || look.WaitsFor(one) {
		t.Errorf("%d, %v", look.Says(), look.Waits)
	}
	look.Match(&s, number(2), one)
	if look.Says() != api.No {
		t.Errorf("%d, want %d", look.Says(), api.No)
	}
	look.Match(&s, variable(-1), one)
}

func TestAwait(t *testing.T) {
	var s store.Store
	var scope store.Scope
	s.Add(variable(2), &scope)
	x, y, z := scope.Nodes[0], scope.Nodes[1], scope.Nodes[2]
	one := s.Add(number(1), &scope)
	whole := s.Add(name("f", variable(0)), &scope)
	if !s.Unify(x, y) || !s.Unify(z, one) {
		t.Fatal("a variable got no value")
	}
	var look Look
	for _, n := range []int{one, z, whole, store.None} {
		look.Await(&s, n)
	}
	if look.Says() != api.Yes {
		t.Errorf("it waits for %v", look.Waits)
	}
	look.Await(&s, y)
	look.Await(&s, x)
	if look.Says() != api.Wait || !reflect.DeepEqual(look.Waits, []int{x}) {
		t.Errorf("it waits for %v, want %d", look.Waits, x)
	}
}

func TestAlso(t *testing.T) {
	look := Look{Stands: []int{7}, Waits: []int{1, 2}}
	other := Look{Stands: []int{8, 9}, Waits: []int{2, 3}}
	look.Also(other)
	if want := (Look{Stands: []int{7}, Waits: []int{1, 2, 3}}); !reflect.DeepEqual(look, want) {
		t.Errorf("%+v, want %+v", look, want)
	}
	look.Also(Look{No: true})
	look.Also(Look{})
	if look.Says() != api.No || !reflect.DeepEqual(other.Waits, []int{2, 3}) {
		t.Errorf("%+v, %+v", look, other)
	}
}
