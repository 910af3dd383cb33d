package run

import (
	"parley/api"
	"parley/show"
	"parley/store"
	"parley/tree"
)

// isLarge tells whether the pool or a term that can be seen in it or in the answer is beyond its bound.
func (m *machine) isLarge() bool {
	if len(m.pool) > api.MaxGoals || m.hasLarge(m.variables) {
		return true
	}
	for _, g := range m.pool {
		parts := m.parts(g)
		if m.hasLarge(parts) {
			return true
		}
	}
	return false
}

func (m *machine) hasLarge(nodes []int) bool {
	for _, n := range nodes {
		if m.terms.Size(n, api.MaxSize) > api.MaxSize {
			return true
		}
	}
	return false
}

// parts answers the terms of a goal that are held against MaxSize: a call itself is not, its arguments are.
func (m *machine) parts(g goal) []int {
	if g.sign == "" {
		return m.terms.Args(g.left)
	}
	return []int{g.left, g.right, g.last}
}

func (m *machine) result() api.Result {
	result := api.Result{End: m.end, Log: m.log}
	if m.end == api.Failure || m.end == api.Arith || m.end == api.Large {
		return result
	}
	var names store.Names
	for _, variable := range m.variables {
		value := m.terms.Tree(variable, &names)
		text := show.Term(value)
		result.Values = append(result.Values, text)
	}
	for _, g := range m.pool {
		item := m.item(g, &names)
		text := show.Item(item)
		result.Goals = append(result.Goals, text)
		ready := m.isReady(g)
		result.Waits = append(result.Waits, !ready)
	}
	return result
}

// item goes from left to right, as the names are given.
func (m *machine) item(g goal, names *store.Names) tree.Item {
	left := m.terms.Tree(g.left, names)
	right := m.terms.Tree(g.right, names)
	last := m.terms.Tree(g.last, names)
	return tree.Item{Left: left, Sign: g.sign, Right: right, Op: g.op, Last: last}
}
