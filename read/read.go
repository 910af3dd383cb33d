// Package read makes trees of texts, and tells where a text is wrong.
package read

import (
	"parley/api"
	"parley/scan"
	"parley/tree"
)

// Answer is what came of a text: its clauses, or the first thing, from the left, that is wrong with it, and where.
type Answer struct {
	Clauses []tree.Clause
	Errno   api.Errno
	At      int
}

// Every fault lies at the first token that has not been taken, so a reader looks at that one alone and never goes back.
type reader struct {
	text  string
	front scan.Token // the first token that has not been taken
	names []string   // the variables of the clause, the query or the lone term, in the order in which they first stand
	errno api.Errno  // why the token at the front was refused
}

// Program reads a program.
func Program(text string) Answer {
	if len(text) > api.MaxProgram {
		return Answer{Errno: api.ErrLong}
	}
	r := reader{text: text, front: scan.Next(text, 0)}
	var clauses []tree.Clause
	for r.front.Kind != scan.End {
		clause, ok := r.clause(len(clauses))
		if !ok {
			return Answer{Errno: r.errno, At: r.front.At}
		}
		clauses = append(clauses, clause)
	}
	return Answer{Clauses: clauses}
}

// refuse does not take the token at the front: its place is the fault's.
func (r *reader) refuse(errno api.Errno) {
	r.errno = errno
}

func (r *reader) take() {
	r.front = scan.Next(r.text, r.front.At+len(r.front.Text))
}

func (r *reader) sees(sign string) bool {
	return r.front.Kind == scan.Sign && r.front.Text == sign
}

// takeIf takes the token at the front, if it may stand there.
func (r *reader) takeIf(fits bool) bool {
	if !fits {
		r.refuse(api.ErrSyntax)
		return false
	}
	r.take()
	return true
}

// ends tells whether nothing is left of the text, and refuses what is.
func (r *reader) ends() bool {
	if r.front.Kind != scan.End {
		r.refuse(api.ErrSyntax)
		return false
	}
	return true
}

// comma takes the `,` ahead of one more part, unless there are as many as may be.
func (r *reader) comma(count int, most int) bool {
	if count >= most {
		r.refuse(api.ErrBig)
		return false
	}
	r.take()
	return true
}

// clause reads a clause that stands behind so many others.
func (r *reader) clause(before int) (tree.Clause, bool) {
	var clause tree.Clause
	if !r.mayBeginClause(before) {
		return clause, false
	}
	r.names = nil
	head, ok := r.term(1)
	clause.Head = head
	if ok && r.sees(":-") {
		r.take()
		ok = r.body(&clause)
	}
	if ok {
		ends := r.sees(".")
		ok = r.takeIf(ends)
	}
	return clause, ok
}

func (r *reader) mayBeginClause(before int) bool {
	if r.front.Kind != scan.Name {
		r.refuse(api.ErrSyntax)
		return false
	}
	if before >= api.MaxClauses {
		r.refuse(api.ErrBig)
		return false
	}
	return true
}

// body reads what stands between `:-` and `.`.
func (r *reader) body(clause *tree.Clause) bool {
	behind, ok := r.items(list{tests: true, goals: true})
	if !ok {
		return false
	}
	if behind.tests && r.sees("|") {
		r.take()
		clause.Tests = behind.items
		behind, ok = r.items(list{goals: true})
	}
	if ok && !behind.goals {
		r.refuse(api.ErrSyntax)
		return false
	}
	clause.Goals = behind.items
	return ok
}
