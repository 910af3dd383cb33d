// Package ask asks a clause whether a call may commit to it.
package ask

import (
	"parley/api"
	"parley/match"
	"parley/store"
	"parley/tree"
)

// Answer is what a clause says to a call.
type Answer struct {
	Says  int
	Waits []int       // with Wait, the variables that it waits for, but for those that the clause alone knows
	Scope store.Scope // with Yes, what the clause's variables stand for, so far as they have been met
}

// Clause matches the head with the call and, if that says Yes, asks the tests.
func Clause(s *store.Store, clause tree.Clause, call int) Answer {
	var look match.Look
	look.Match(s, clause.Head, call)
	if look.Says() != api.Yes {
		return Answer{Says: look.Says(), Waits: look.Waits}
	}
	scope := scopeOf(look.Stands)
	for _, test := range clause.Tests {
		found := askTest(s, test, &scope)
		look.Also(found)
	}
	known := othersKnow(look.Waits, scope, len(look.Stands))
	return Answer{Says: look.Says(), Waits: known, Scope: scope}
}

// scopeOf answers a scope with room of its own, since the tests and goals may bring more variables.
func scopeOf(stands []int) store.Scope {
	var scope store.Scope
	for _, n := range stands {
		scope.Nodes = append(scope.Nodes, n)
	}
	return scope
}

// othersKnow leaves out the variables that the scope has beyond those of the head: nobody can ever give them a value.
func othersKnow(waits []int, scope store.Scope, ofHead int) []int {
	var known []int
	for _, variable := range waits {
		if !standsBeyond(variable, scope, ofHead) {
			known = append(known, variable)
		}
	}
	return known
}

func standsBeyond(variable int, scope store.Scope, ofHead int) bool {
	for i, n := range scope.Nodes {
		if i >= ofHead && n == variable {
			return true
		}
	}
	return false
}
