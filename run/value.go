package run

import (
	"parley/api"
	"parley/tree"
)

// value calculates what stands behind `:=`, and tells whether that is a number within the bounds.
func (m *machine) value(g goal) (int, bool) {
	first, ok := m.number(g.right)
	if !ok || g.op == "" {
		return first, ok
	}
	second, ok := m.number(g.last)
	if !ok {
		return 0, false
	}
	// no number is beyond MaxValue, so that even a product has room in 64 bits
	result := calculate(int64(first), g.op, int64(second))
	if result > api.MaxValue || result < -api.MaxValue {
		return 0, false
	}
	return int(result), true
}

func (m *machine) number(n int) (int, bool) {
	label := m.terms.Label(n)
	return label.Value, label.Kind == tree.Number
}

func calculate(first int64, op string, second int64) int64 {
	switch op {
	case "+":
		return first + second
	case "-":
		return first - second
	}
	return first * second
}
