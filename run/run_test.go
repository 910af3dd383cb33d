package run

import (
	"math"
	"reflect"
	"testing"

	"parley/api"
	"parley/read"
	"parley/store"
	"parley/tree"
)

func TestChosen(t *testing.T) {
	for _, c := range []struct{ pick, count, want int }{
		{0, 1, 0}, {5, 1, 0}, {-5, 1, 0}, {0, 3, 0}, {2, 3, 2}, {3, 3, 0}, {7, 3, 1}, {-1, 3, 2}, {-3, 3, 0}, {-4, 3, 2}, {math.MaxInt, 2, 1}, {math.MinInt, 2, 0}, {math.MinInt, 3, 1}, {math.MinInt, 1, 0}, {7, 0, 0}, {7, -1, 0},
	} {
		if got := chosen(c.pick, c.count); got != c.want {
			t.Errorf("chosen(%d, %d) = %d, want %d", c.pick, c.count, got, c.want)
		}
	}
}

// begun is a run ahead of its first step.
func begun(t *testing.T, program, query string) *machine {
	t.Helper()
	code := read.Program(program)
	asked := read.Query(query)
	if code.Errno != api.OK || asked.Errno != api.OK {
		t.Fatalf("%q, %q: %d, %d", program, query, code.Errno, asked.Errno)
	}
	m := machine{clauses: code.Clauses}
	var scope store.Scope
	m.join(asked.Goals, &scope)
	m.variables = scope.Nodes
	return &m
}

func TestWhatAGoalWaitsFor(t *testing.T) {
	for _, c := range []struct {
		program, goal string
		needs         []int // numbers of the query's variables
	}{
		{"p(a,b).", "p(X,Y)", []int{0, 1}}, {"p(a,X).", "p(X,Y)", []int{0}}, {"p(a,X). p(X,b).", "p(X,Y)", []int{0, 1}}, {"p(a,1). p(X,2).", "p(X,2)", nil}, {"p(a,1). p(b,2). p(X,2):-X<1|true.", "p(X,2)", []int{0}}, {"p:-X<1|true.", "p", []int{}},
		{"", "X:=Y", []int{1}}, {"", "X:=Y+Z", []int{1, 2}}, {"", "X:=Y+Y", []int{1}}, {"", "X:=1*Z", []int{1}}, {"", "X:=X", []int{0}},
	} {
		m := begun(t, c.program, c.goal)
		m.step(0, 0)
		if c.needs == nil {
			if len(m.pool) != 0 {
				t.Errorf("%q, %q waits for %v", c.program, c.goal, m.pool[0].needs)
			}
			continue
		}
		if len(m.pool) != 1 || !m.pool[0].waits || m.isReady(m.pool[0]) {
			t.Fatalf("%q, %q does not wait: %+v", c.program, c.goal, m.pool)
		}
		awaited := map[int]bool{}
		for _, n := range m.pool[0].needs {
			awaited[n] = true
		}
		want := map[int]bool{}
		for _, which := range c.needs {
			want[m.variables[which]] = true
		}
		if !reflect.DeepEqual(awaited, want) {
			t.Errorf("%q, %q waits for %v, want %v", c.program, c.goal, awaited, want)
		}
	}
}

func TestWhoIsReady(t *testing.T) {
	m := begun(t, "", "X=Y,Z=1,true")
	x, y, z := m.variables[0], m.variables[1], m.variables[2]
	m.pool[0].waits = true
	m.pool[1].waits = true
	m.pool[1].needs = []int{x, y}
	m.pool[2].waits = true
	m.pool[2].needs = []int{z}
	if ready := m.ready(); ready != nil {
		t.Errorf("%v are ready", ready)
	}
	m.terms.Unify(x, y)
	if ready := m.ready(); !reflect.DeepEqual(ready, []int{1}) {
		t.Errorf("%v are ready, want 1", ready)
	}
	one := m.terms.Add(tree.Term{Kind: tree.Number, Value: 1}, &store.Scope{})
	m.terms.Unify(one, z)
	if ready := m.ready(); !reflect.DeepEqual(ready, []int{1, 2}) {
		t.Errorf("%v are ready, want 1 and 2", ready)
	}
}

func TestCalculate(t *testing.T) {
	const great = api.MaxValue
	for _, c := range []struct {
		first  int64
		op     string
		second int64
		want   int64
	}{
		{2, "+", 3, 5}, {2, "-", 3, -1}, {2, "*", 3, 6}, {-2, "*", 3, -6}, {great, "+", great, 2 * great}, {-great, "-", great, -2 * great}, {great, "*", great, great * great}, {great, "*", -great, -great * great},
	} {
		if got := calculate(c.first, c.op, c.second); got != c.want {
			t.Errorf("%d%s%d = %d, want %d", c.first, c.op, c.second, got, c.want)
		}
	}
}

func TestQuery(t *testing.T) {
	code := read.Program("p(X):-X<3|Y:=X+1,p(Y). p(3).")
	asked := read.Query("p(A),A=2,B=f(C)")
	got := Query(code.Clauses, asked.Goals, []api.Pick{{}, {}, {}, {G: -2}})
	want := api.Result{End: api.Open, Log: []int{-1, 0, 1, 0}, Values: []string{"2", "V0", "V1"}, Goals: []string{"V0=f(V1)", "p(3)"}, Waits: []bool{false, false}}
	if !reflect.DeepEqual(got, want) {
		t.Errorf("%+v, want %+v", got, want)
	}
}
