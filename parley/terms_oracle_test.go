package parley_test

import (
	"slices"
	"strings"

	"parley/api"
)

// What stands here answers P5 and P6 in another way than the program does: Unify by equations of which each is put into all others at once, Match by the places of terms.

// term is a variable (a capital letter first), a number (a digit first, no noughts in front) or a name.
type term struct {
	text string
	args []term
}

func (t term) isVariable() bool { return t.text[0] >= 'A' && t.text[0] <= 'Z' }

func (t term) String() string {
	if len(t.args) == 0 {
		return t.text
	}
	var args []string
	for _, arg := range t.args {
		args = append(args, arg.String())
	}
	return t.text + "(" + strings.Join(args, ",") + ")"
}

func (t term) size() int {
	size := 1
	for _, arg := range t.args {
		size += arg.size()
	}
	return size
}

// parse is for texts that are known to be terms.
func parse(text string) term {
	t, _ := parseTokens(tokensOf(text))
	return t
}

func parseTokens(tokens []token) (term, []token) {
	t := term{text: tokens[0].text}
	if tokens[0].terminal == "1" {
		t.text = strings.TrimLeft(t.text[:len(t.text)-1], "0") + t.text[len(t.text)-1:]
	}
	tokens = tokens[1:]
	for len(tokens) > 0 && (tokens[0].text == "(" || tokens[0].text == "," && len(t.args) > 0) {
		var arg term
		arg, tokens = parseTokens(tokens[1:])
		t.args = append(t.args, arg)
	}
	if len(t.args) > 0 {
		tokens = tokens[1:]
	}
	return t, tokens
}

// with puts a term for a variable.
func (t term) with(variable string, value term) term {
	if t.isVariable() {
		if t.text == variable {
			return value
		}
		return t
	}
	put := term{text: t.text}
	for _, arg := range t.args {
		put.args = append(put.args, arg.with(variable, value))
	}
	return put
}

func (t term) has(variable string) bool {
	return t.text == variable || slices.ContainsFunc(t.args, func(arg term) bool { return arg.has(variable) })
}

// apart calls each variable by another name; no text can have it, since a `'` begins no token.
func (t term) apart() term {
	if t.isVariable() {
		return term{text: t.text + "'"}
	}
	other := term{text: t.text}
	for _, arg := range t.args {
		other.args = append(other.args, arg.apart())
	}
	return other
}

// renamed calls the variables V0, V1 and so on.
func (t term) renamed(known map[string]string) term {
	if t.isVariable() {
		if known[t.text] == "" {
			known[t.text] = "V" + decimal(len(known))
		}
		return term{text: known[t.text]}
	}
	other := term{text: t.text}
	for _, arg := range t.args {
		other.args = append(other.args, arg.renamed(known))
	}
	return other
}

type equation struct{ left, right term }

// oracleCommon answers the most general term that comes of both.
func oracleCommon(a, b term) (term, bool) {
	whole := a
	todo := []equation{{a, b.apart()}}
	for len(todo) > 0 {
		e := todo[len(todo)-1]
		todo = todo[:len(todo)-1]
		if !e.left.isVariable() {
			e.left, e.right = e.right, e.left
		}
		switch {
		case e.left.isVariable() && e.left.text == e.right.text:
		case e.left.isVariable():
			if e.right.has(e.left.text) {
				return term{}, false
			}
			whole = whole.with(e.left.text, e.right)
			for i := range todo {
				todo[i].left = todo[i].left.with(e.left.text, e.right)
				todo[i].right = todo[i].right.with(e.left.text, e.right)
			}
		case e.left.text != e.right.text || len(e.left.args) != len(e.right.args):
			return term{}, false
		default:
			for i := range e.left.args {
				todo = append(todo, equation{e.left.args[i], e.right.args[i]})
			}
		}
	}
	return whole.renamed(map[string]string{}), true
}

// oracleTexts answers the errors of P5 and P6 that hang on the texts.
func oracleTexts(a, b string) api.Errno {
	ofA, _ := oracleRead(a, "Lone", api.MaxTerm)
	ofB, _ := oracleRead(b, "Lone", api.MaxTerm)
	switch {
	case ofA == api.ErrLong || ofB == api.ErrLong:
		return api.ErrLong
	case ofA != api.OK:
		return ofA
	}
	return ofB
}

func oracleUnify(a, b string) (string, bool, api.Errno) {
	if errno := oracleTexts(a, b); errno != api.OK {
		return "", false, errno
	}
	common, ok := oracleCommon(parse(a), parse(b))
	switch {
	case !ok:
		return "", false, api.OK
	case common.size() > api.MaxSize:
		return "", false, api.ErrLarge
	}
	return common.String(), true, api.OK
}

// place is the way to a part of a term: which argument at each level.
type place []int

// places answers those of all parts, the whole ahead of its arguments.
func (t term) places() []place {
	all := []place{nil}
	for i, arg := range t.args {
		for _, below := range arg.places() {
			all = append(all, append(place{i}, below...))
		}
	}
	return all
}

// at answers the part that stands there, and whether the term reaches there.
func (t term) at(p place) (term, bool) {
	for _, i := range p {
		if i >= len(t.args) {
			return term{}, false
		}
		t = t.args[i]
	}
	return t, true
}

// bothReach tells whether a walk through both comes to this place: both have the same names all the way to it.
func bothReach(a, b term, p place) bool {
	for i := range p {
		x, _ := a.at(p[:i])
		y, reaches := b.at(p[:i])
		if !reaches || x.text != y.text || len(x.args) != len(y.args) || x.isVariable() {
			return false
		}
	}
	return true
}

// found is what a walk through two terms has come to.
type found struct {
	differs bool
	waits   map[string]bool
}

func (f *found) compare(a, b term) {
	for _, p := range a.places() {
		if !bothReach(a, b, p) {
			continue
		}
		x, _ := a.at(p)
		y, _ := b.at(p)
		if x.isVariable() && y.isVariable() && x.text == y.text {
			continue
		}
		if x.isVariable() {
			f.waits[x.text] = true
		}
		if y.isVariable() {
			f.waits[y.text] = true
		}
		f.differs = f.differs || !x.isVariable() && !y.isVariable() && (x.text != y.text || len(x.args) != len(y.args))
	}
}

// match answers what the pattern's variables stand for.
func (f *found) match(pattern, whole term) map[string]term {
	stands := map[string]term{}
	for _, p := range pattern.places() {
		if !bothReach(pattern, whole, p) {
			continue
		}
		x, _ := pattern.at(p)
		y, _ := whole.at(p)
		known, met := stands[x.text]
		switch {
		case x.isVariable() && !met:
			stands[x.text] = y
		case x.isVariable():
			f.compare(known, y)
		case y.isVariable():
			f.waits[y.text] = true
		default:
			f.differs = f.differs || x.text != y.text || len(x.args) != len(y.args)
		}
	}
	return stands
}

func oracleMatch(pattern, whole string) (int, []string, api.Errno) {
	if errno := oracleTexts(pattern, whole); errno != api.OK {
		return 0, nil, errno
	}
	f := found{waits: map[string]bool{}}
	f.match(parse(pattern), parse(whole))
	if f.differs {
		return api.No, nil, api.OK
	}
	var waits []string
	for _, t := range tokensOf(whole) {
		if f.waits[t.text] && !slices.Contains(waits, t.text) {
			waits = append(waits, t.text)
		}
	}
	if len(waits) > 0 {
		return api.Wait, waits, api.OK
	}
	return api.Yes, nil, api.OK
}
