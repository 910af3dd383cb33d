package run

import (
	"parley/api"
	"parley/ask"
	"parley/match"
	"parley/store"
	"parley/tree"
)

// What the log says of a step that committed to no clause.
const (
	gone   = 0
	waits  = -1
	failed = -2
)

// step lets the goal at a place in the pool make a step; first is the pick among its clauses.
func (m *machine) step(at int, first int) {
	entry := m.goOn(at, first)
	m.log = append(m.log, entry)
	if m.end == 0 && m.isLarge() {
		m.end = api.Large
	}
}

// goOn answers what the log says of the step.
func (m *machine) goOn(at int, first int) int {
	g := m.pool[at]
	switch g.sign {
	case "=":
		return m.equate(at, g.left, g.right)
	case ":=":
		return m.assign(at, g)
	}
	label := m.terms.Label(g.left)
	if label.Text == "true" && label.Count == 0 {
		return m.leave(at)
	}
	return m.call(at, g.left, first)
}

func (m *machine) fail(end int) int {
	m.end = end
	return failed
}

func (m *machine) wait(at int, needs []int) int {
	m.pool[at].waits = true
	m.pool[at].needs = needs
	return waits
}

func (m *machine) leave(at int) int {
	var left []goal
	for i, g := range m.pool {
		if i != at {
			left = append(left, g)
		}
	}
	m.pool = left
	return gone
}

func (m *machine) equate(at int, a int, b int) int {
	if !m.terms.Unify(a, b) {
		return m.fail(api.Failure)
	}
	return m.leave(at)
}

func (m *machine) assign(at int, g goal) int {
	var look match.Look
	look.Await(&m.terms, g.right)
	look.Await(&m.terms, g.last)
	if len(look.Waits) > 0 {
		return m.wait(at, look.Waits)
	}
	value, ok := m.value(g)
	if !ok {
		return m.fail(api.Arith)
	}
	result := m.terms.Add(tree.Term{Kind: tree.Number, Value: value}, &store.Scope{})
	return m.equate(at, g.left, result)
}

// call looks at the clauses one after the other; those that say No have no part in what the goal waits for.
func (m *machine) call(at int, goal int, first int) int {
	own := m.clausesOf(goal)
	begin := chosen(first, len(own))
	waiting := false
	var needs []int
	for i := range own {
		which := own[chosen(begin+i, len(own))]
		answer := ask.Clause(&m.terms, m.clauses[which], goal)
		if answer.Says == api.Yes {
			return m.commit(at, which, answer.Scope)
		}
		if answer.Says == api.Wait {
			waiting = true
			needs = append(needs, answer.Waits...)
		}
	}
	if !waiting {
		return m.fail(api.Failure)
	}
	return m.wait(at, needs)
}

// clausesOf answers which clauses of the program have the goal's name and number of arguments.
func (m *machine) clausesOf(goal int) []int {
	label := m.terms.Label(goal)
	var own []int
	for i, clause := range m.clauses {
		if clause.Head.Label() == label {
			own = append(own, i)
		}
	}
	return own
}

func (m *machine) commit(at int, which int, scope store.Scope) int {
	goals := m.clauses[which].Goals
	m.leave(at)
	m.join(goals, &scope)
	return which + 1
}
