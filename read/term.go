package read

import (
	"parley/api"
	"parley/scan"
	"parley/tree"
)

// TermAnswer is what came of a text that is to be a term: the term and the names of its variables, by their numbers; or what is wrong first.
type TermAnswer struct {
	Term  tree.Term
	Names []string
	Errno api.Errno
}

// Term reads a text that is one term.
func Term(text string) TermAnswer {
	if len(text) > api.MaxTerm {
		return TermAnswer{Errno: api.ErrLong}
	}
	r := reader{text: text, front: scan.Next(text, 0)}
	term, ok := r.term(1)
	if ok {
		ok = r.ends()
	}
	if !ok {
		return TermAnswer{Errno: r.errno}
	}
	return TermAnswer{Term: term, Names: r.names}
}

// term reads a term of the depth given.
func (r *reader) term(depth int) (tree.Term, bool) {
	first := r.front
	if !r.mayBegin(depth) {
		return tree.Term{}, false
	}
	r.take()
	switch first.Kind {
	case scan.Variable:
		which := r.variable(first.Text)
		return tree.Term{Kind: tree.Variable, Value: which}, true
	case scan.Number:
		return tree.Term{Kind: tree.Number, Value: valueOf(first.Text)}, true
	}
	args, ok := r.arguments(depth + 1)
	return tree.Term{Kind: tree.Name, Text: first.Text, Args: args}, ok
}

// mayBegin tells whether the token at the front begins a term that keeps to the bounds.
func (r *reader) mayBegin(depth int) bool {
	kind := r.front.Kind
	if kind != scan.Name && kind != scan.Variable && kind != scan.Number {
		r.refuse(api.ErrSyntax)
		return false
	}
	long := kind == scan.Number && len(r.front.Text) > api.MaxDigits
	if long || depth > api.MaxDeep {
		r.refuse(api.ErrBig)
		return false
	}
	return true
}

// arguments reads the terms in brackets behind a name, if there are any.
func (r *reader) arguments(depth int) ([]tree.Term, bool) {
	if !r.sees("(") {
		return nil, true
	}
	r.take()
	var args []tree.Term
	for {
		arg, ok := r.term(depth)
		if !ok {
			return nil, false
		}
		args = append(args, arg)
		if !r.sees(",") {
			ends := r.sees(")")
			ok = r.takeIf(ends)
			return args, ok
		}
		if !r.comma(len(args), api.MaxArgs) {
			return nil, false
		}
	}
}

// variable answers which one of the variables has this name.
func (r *reader) variable(name string) int {
	for i, known := range r.names {
		if known == name {
			return i
		}
	}
	r.names = append(r.names, name)
	return len(r.names) - 1
}

// The digits are at most MaxDigits, so the value can't pass what an int holds.
func valueOf(digits string) int {
	value := 0
	for i := 0; i < len(digits); i++ {
		value = value*10 + int(digits[i]-'0')
	}
	return value
}
