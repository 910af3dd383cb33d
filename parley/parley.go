// Package parley: logic programs whose goals wait for one another: see DOC.md.
package parley

import (
	"parley/api"
	"parley/read"
	"parley/show"
)

// Check tells whether a text is a program (P3).
func Check(program string) (api.Errno, int) {
	answer := read.Program(program)
	return answer.Errno, answer.At
}

// Show writes a program in one way (P4).
func Show(program string) (string, api.Errno) {
	answer := read.Program(program)
	return show.Program(answer.Clauses), answer.Errno
}

// Unify makes two terms one (P5).
func Unify(a string, b string) (string, bool, api.Errno) { return "", false, api.OK }

// Match tells whether a pattern matches a term (P6).
func Match(pattern string, term string) (int, []string, api.Errno) { return 0, nil, api.OK }

// Run runs a query (P7 to P11).
func Run(program string, query string, script []api.Pick) (api.Result, api.Errno) {
	return api.Result{}, api.OK
}
