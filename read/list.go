package read

import (
	"parley/api"
	"parley/scan"
	"parley/tree"
)

// list is items with `,` between. Whether they are tests or goals may show only behind the last one, so it keeps what they can still be.
type list struct {
	items []tree.Item
	tests bool // all of them can be tests
	goals bool // all of them can be goals
}

// items reads all items of a list that is told what it can be.
func (r *reader) items(l list) (list, bool) {
	for {
		item, ok := r.item(&l)
		if !ok {
			return list{}, false
		}
		l.items = append(l.items, item)
		if !r.sees(",") {
			return l, true
		}
		if !r.comma(len(l.items), api.MaxParts) {
			return list{}, false
		}
	}
}

// item reads a test or a goal, and takes from the list what it no longer can be.
func (r *reader) item(l *list) (tree.Item, bool) {
	left, ok := r.term(1)
	if !ok {
		return tree.Item{}, false
	}
	switch {
	case r.seesTestSign():
		l.goals = false
		return r.sides(left, l.tests)
	case r.sees("="):
		l.tests = false
		return r.sides(left, l.goals)
	case left.Kind == tree.Variable && r.sees(":="):
		l.tests = false
		return r.assignment(left, l.goals)
	}
	l.tests = l.tests && isIntTest(left)
	fits := l.tests || l.goals
	if left.Kind != tree.Name || !fits {
		r.refuse(api.ErrSyntax)
		return tree.Item{}, false
	}
	return tree.Item{Left: left}, true
}

func (r *reader) seesTestSign() bool {
	if r.front.Kind != scan.Sign {
		return false
	}
	switch r.front.Text {
	case "<", "=<", "==", "\\=":
		return true
	}
	return false
}

func isIntTest(t tree.Term) bool {
	return t.Kind == tree.Name && t.Text == "int" && len(t.Args) == 1
}

// sides reads a sign and the term behind it, if the sign may stand here.
func (r *reader) sides(left tree.Term, fits bool) (tree.Item, bool) {
	item := tree.Item{Left: left, Sign: r.front.Text}
	if !r.takeIf(fits) {
		return item, false
	}
	right, ok := r.term(1)
	item.Right = right
	return item, ok
}

// assignment reads `:=` and what stands behind it, if it may stand here.
func (r *reader) assignment(left tree.Term, fits bool) (tree.Item, bool) {
	item := tree.Item{Left: left, Sign: r.front.Text}
	if !r.takeIf(fits) {
		return item, false
	}
	right, ok := r.operand()
	item.Right = right
	if !ok || !r.seesOperator() {
		return item, ok
	}
	item.Op = r.front.Text
	r.take()
	last, ok := r.operand()
	item.Last = last
	return item, ok
}

func (r *reader) seesOperator() bool {
	return r.sees("+") || r.sees("-") || r.sees("*")
}

// operand reads what may be calculated with: a name may not stand here, though it is a term.
func (r *reader) operand() (tree.Term, bool) {
	if r.front.Kind == scan.Name {
		r.refuse(api.ErrSyntax)
		return tree.Term{}, false
	}
	return r.term(1)
}
