// Package parley: logic programs whose goals wait for one another: see DOC.md.
package parley

import (
	"parley/api"
	"parley/match"
	"parley/read"
	"parley/run"
	"parley/show"
	"parley/store"
)

// Check tells whether a text is a program (P3).
func Check(program string) (api.Errno, int) {
	answer := read.Program(program)
	return answer.Errno, answer.At
}

// Show writes a program in one way (P4).
func Show(program string) (string, api.Errno) {
	answer := read.Program(program)
	return show.Program(answer.Clauses), answer.Errno
}

// Unify makes two terms one (P5).
func Unify(a string, b string) (string, bool, api.Errno) {
	left := read.Term(a)
	right := read.Term(b)
	errno := firstError(left.Errno, right.Errno)
	if errno != api.OK {
		return "", false, errno
	}
	var terms store.Store
	one := terms.Add(left.Term, &store.Scope{})
	other := terms.Add(right.Term, &store.Scope{})
	if !terms.Unify(one, other) {
		return "", false, api.OK
	}
	if terms.Size(one, api.MaxSize) > api.MaxSize {
		return "", false, api.ErrLarge
	}
	common := terms.Tree(one, &store.Names{})
	return show.Term(common), true, api.OK
}

// firstError answers which of two texts' errors goes first: that a text is too long shows ahead of all that is wrong within the texts.
func firstError(a api.Errno, b api.Errno) api.Errno {
	if a == api.OK || b == api.ErrLong {
		return b
	}
	return a
}

// Match tells whether a pattern matches a term (P6).
func Match(pattern string, term string) (int, []string, api.Errno) {
	left := read.Term(pattern)
	right := read.Term(term)
	errno := firstError(left.Errno, right.Errno)
	if errno != api.OK {
		return 0, nil, errno
	}
	var terms store.Store
	var variables store.Scope
	whole := terms.Add(right.Term, &variables)
	var look match.Look
	look.Match(&terms, left.Term, whole)
	says := look.Says()
	if says != api.Wait {
		return says, nil, api.OK
	}
	return says, waitedFor(look, variables, right.Names), api.OK
}

func waitedFor(look match.Look, variables store.Scope, names []string) []string {
	var waited []string
	for i, variable := range variables.Nodes {
		if i < len(names) && look.WaitsFor(variable) {
			waited = append(waited, names[i])
		}
	}
	return waited
}

// Run runs a query (P7 to P11).
func Run(program string, query string, script []api.Pick) (api.Result, api.Errno) {
	code := read.Program(program)
	asked := read.Query(query)
	switch {
	case code.Errno != api.OK:
		return api.Result{}, code.Errno
	case len(script) > api.MaxScript:
		return api.Result{}, api.ErrLong
	case asked.Errno != api.OK:
		return api.Result{}, asked.Errno
	}
	return run.Query(code.Clauses, asked.Goals, script), api.OK
}
