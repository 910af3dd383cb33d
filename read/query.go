package read

import (
	"parley/api"
	"parley/scan"
	"parley/tree"
)

// QueryAnswer is what came of a text that is to be a query: its goals, or what is wrong first.
type QueryAnswer struct {
	Goals []tree.Item
	Errno api.Errno
}

// Query reads a text that is one query.
func Query(text string) QueryAnswer {
	if len(text) > api.MaxQuery {
		return QueryAnswer{Errno: api.ErrLong}
	}
	r := reader{text: text, front: scan.Next(text, 0)}
	query, ok := r.items(list{goals: true})
	if ok {
		ok = r.ends()
	}
	if !ok {
		return QueryAnswer{Errno: r.errno}
	}
	return QueryAnswer{Goals: query.items}
}
