// Package run makes the steps of a query, as a script tells them.
package run

import (
	"parley/api"
	"parley/store"
	"parley/tree"
)

// goal is a tree.Item whose terms are nodes; store.None where it has none.
type goal struct {
	left  int
	sign  string
	right int
	op    string
	last  int
	waits bool
	needs []int // the variables that it waits for, none of which had a value then
}

type machine struct {
	clauses   []tree.Clause
	terms     store.Store
	variables []int // of the query
	pool      []goal
	log       []int
	end       int // 0 while it goes on
}

// Query runs a query with the clauses of a program.
func Query(clauses []tree.Clause, query []tree.Item, script []api.Pick) api.Result {
	m := machine{clauses: clauses}
	var scope store.Scope
	m.join(query, &scope)
	m.variables = scope.Nodes
	for _, pick := range script {
		ready := m.ready()
		if len(ready) == 0 {
			break
		}
		which := chosen(pick.G, len(ready))
		m.step(ready[which], pick.C)
		if m.end != 0 {
			break
		}
	}
	m.finish()
	return m.result()
}

// join lays goals at the end of the pool.
func (m *machine) join(goals []tree.Item, scope *store.Scope) {
	for _, item := range goals {
		made := goal{sign: item.Sign, right: store.None, op: item.Op, last: store.None}
		made.left = m.terms.Add(item.Left, scope)
		if item.Sign != "" {
			made.right = m.terms.Add(item.Right, scope)
		}
		if item.Op != "" {
			made.last = m.terms.Add(item.Last, scope)
		}
		m.pool = append(m.pool, made)
	}
}

// ready answers the places in the pool of the goals that are ready.
func (m *machine) ready() []int {
	var ready []int
	for i, g := range m.pool {
		if m.isReady(g) {
			ready = append(ready, i)
		}
	}
	return ready
}

func (m *machine) isReady(g goal) bool {
	if !g.waits {
		return true
	}
	for _, variable := range g.needs {
		if m.terms.Front(variable) != variable {
			return true
		}
	}
	return false
}

// chosen answers which one of so many a pick means: it goes round, below 0 too.
func chosen(pick int, count int) int {
	if count <= 0 {
		return 0
	}
	which := pick % count
	if which < 0 {
		which += count
	}
	return which
}

// finish is for a run that no step has ended.
func (m *machine) finish() {
	if m.end != 0 {
		return
	}
	ready := m.ready()
	switch {
	case len(m.pool) == 0:
		m.end = api.Success
	case len(ready) == 0:
		m.end = api.Deadlock
	default:
		m.end = api.Open
	}
}
