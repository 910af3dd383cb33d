package parley_test

import (
	"maps"
	"math/big"
	"slices"
	"strings"

	"parley/api"
)

// What stands here answers P7 to P11 in another way than the program does: each value is put, as soon as it is found, for its variable wherever that stands, and each goal is written out whole.

// item is a test or a goal: its terms, and the signs between them.
type item struct {
	terms []term
	signs []string
}

type clause struct {
	head         term
	tests, goals []item
}

// cut cuts tokens at each of the signs that stands in no brackets, and tells which signs they were.
func cut(tokens []token, at ...string) ([][]token, []string) {
	parts := [][]token{nil}
	var signs []string
	level := 0
	for _, t := range tokens {
		if level == 0 && slices.Contains(at, t.text) {
			parts = append(parts, nil)
			signs = append(signs, t.text)
			continue
		}
		level += strings.Count(t.text, "(") - strings.Count(t.text, ")")
		parts[len(parts)-1] = append(parts[len(parts)-1], t)
	}
	return parts, signs
}

func parseItems(tokens []token) []item {
	var items []item
	parts, _ := cut(tokens, ",")
	for _, part := range parts {
		var parsed item
		terms, signs := cut(part, "<", "=<", "==", "\\=", "=", ":=", "+", "-", "*")
		for _, tokens := range terms {
			t, _ := parseTokens(tokens)
			parsed.terms = append(parsed.terms, t)
		}
		parsed.signs = signs
		items = append(items, parsed)
	}
	return items
}

func parseProgram(text string) []clause {
	var program []clause
	parts, _ := cut(tokensOf(text), ".")
	for _, part := range parts[:len(parts)-1] {
		var c clause
		sides, signs := cut(part, ":-", "|")
		c.head, _ = parseTokens(sides[0])
		if len(signs) == 2 {
			c.tests = parseItems(sides[1])
		}
		if len(signs) > 0 {
			c.goals = parseItems(sides[len(signs)])
		}
		program = append(program, c)
	}
	return program
}

func (i item) mapped(change func(term) term) item {
	other := item{signs: i.signs}
	for _, t := range i.terms {
		other.terms = append(other.terms, change(t))
	}
	return other
}

func (i item) String() string {
	text := i.terms[0].String()
	for j, sign := range i.signs {
		text += sign + i.terms[j+1].String()
	}
	return text
}

// variables answers those of a term, in their order, each once.
func (t term) variables(known []string) []string {
	if t.isVariable() && !slices.Contains(known, t.text) {
		return append(known, t.text)
	}
	for _, arg := range t.args {
		known = arg.variables(known)
	}
	return known
}

func variablesOf(known []string, items []item) []string {
	for _, i := range items {
		for _, t := range i.terms {
			known = t.variables(known)
		}
	}
	return known
}

func (t term) isNumber() bool { return t.text[0] == '-' || t.text[0] >= '0' && t.text[0] <= '9' }

func (t term) number() *big.Int {
	n, _ := new(big.Int).SetString(t.text, 10)
	return n
}

type pooled struct {
	item
	waits bool
	needs []string
}

// world is a run: a variable is called M and its number, in the order of their making.
type world struct {
	program []clause
	values  []term
	pool    []pooled
	made    int
	hasGot  map[string]bool // the variables that have got a value
	log     []int
	end     int
}

func (w *world) newVariable() term {
	w.made++
	return term{text: "M" + decimal(w.made)}
}

// madeEarlier goes by the number in the name.
func madeEarlier(a, b term) bool {
	return len(a.text) < len(b.text) || len(a.text) == len(b.text) && a.text < b.text
}

// put gives a variable its value, everywhere.
func (w *world) put(variable string, value term) {
	w.hasGot[variable] = true
	for i := range w.values {
		w.values[i] = w.values[i].with(variable, value)
	}
	for i := range w.pool {
		w.pool[i].item = w.pool[i].mapped(func(t term) term { return t.with(variable, value) })
	}
}

func (w *world) makeOne(a, b term) bool {
	todo := []equation{{a, b}}
	for len(todo) > 0 {
		e := todo[0]
		todo = todo[1:]
		if !e.left.isVariable() || e.right.isVariable() && madeEarlier(e.left, e.right) {
			e.left, e.right = e.right, e.left
		}
		switch {
		case e.left.isVariable() && e.left.text == e.right.text:
		case e.left.isVariable():
			if e.right.has(e.left.text) {
				return false
			}
			w.put(e.left.text, e.right)
			for i := range todo {
				todo[i].left = todo[i].left.with(e.left.text, e.right)
				todo[i].right = todo[i].right.with(e.left.text, e.right)
			}
		case e.left.text != e.right.text || len(e.left.args) != len(e.right.args):
			return false
		default:
			for i := range e.left.args {
				todo = append(todo, equation{e.left.args[i], e.right.args[i]})
			}
		}
	}
	return true
}

func (w *world) isReady(p pooled) bool {
	return !p.waits || slices.ContainsFunc(p.needs, func(v string) bool { return w.hasGot[v] })
}

// modulo answers the one of 0 to count-1 that is a whole number of counts away.
func modulo(n, count int) int {
	m := new(big.Int).Mod(big.NewInt(int64(n)), big.NewInt(int64(count)))
	return int(m.Int64())
}

func (w *world) run(script []api.Pick) {
	for w.end == 0 {
		var ready []int
		for i, p := range w.pool {
			if w.isReady(p) {
				ready = append(ready, i)
			}
		}
		switch {
		case len(w.pool) == 0:
			w.end = api.Success
		case len(ready) == 0:
			w.end = api.Deadlock
		case len(w.log) == len(script):
			w.end = api.Open
		default:
			pick := script[len(w.log)]
			at := ready[modulo(pick.G, len(ready))]
			w.log = append(w.log, w.step(at, pick.C))
			if w.end == 0 && w.isLarge() {
				w.end = api.Large
			}
		}
	}
}

func (w *world) leave(at int) int {
	w.pool = slices.Delete(w.pool, at, at+1)
	return 0
}

func (w *world) stop(end int) int {
	w.end = end
	return -2
}

func (w *world) step(at, first int) int {
	p := w.pool[at]
	switch {
	case p.String() == "true":
		return w.leave(at)
	case len(p.signs) == 0:
		return w.call(at, first)
	case p.signs[0] == ":=":
		return w.assign(at)
	case !w.makeOne(p.terms[0], p.terms[1]):
		return w.stop(api.Failure)
	}
	return w.leave(at)
}

func (w *world) assign(at int) int {
	p := &w.pool[at]
	var needs []string
	for _, t := range p.terms[1:] {
		if t.isVariable() {
			needs = append(needs, t.text)
		}
	}
	if needs != nil {
		p.waits, p.needs = true, needs
		return -1
	}
	if !slices.ContainsFunc(p.terms[1:], func(t term) bool { return !t.isNumber() }) {
		if result := calculated(*p); result.CmpAbs(big.NewInt(api.MaxValue)) <= 0 {
			if !w.makeOne(p.terms[0], term{text: result.String()}) {
				return w.stop(api.Failure)
			}
			return w.leave(at)
		}
	}
	return w.stop(api.Arith)
}

func calculated(p pooled) *big.Int {
	first := p.terms[1].number()
	if len(p.signs) == 1 {
		return first
	}
	second := p.terms[2].number()
	switch p.signs[1] {
	case "+":
		return first.Add(first, second)
	case "-":
		return first.Sub(first, second)
	}
	return first.Mul(first, second)
}

func (w *world) call(at, first int) int {
	goal := w.pool[at].terms[0]
	var own []int
	for i, c := range w.program {
		if c.head.text == goal.text && len(c.head.args) == len(goal.args) {
			own = append(own, i)
		}
	}
	waits := false
	var needs []string
	for i := range own {
		which := own[modulo(modulo(first, len(own))+i, len(own))]
		says, waited, stands := w.program[which].ask(goal)
		switch says {
		case api.Yes:
			w.leave(at)
			w.commit(w.program[which], stands)
			return which + 1
		case api.Wait:
			waits = true
			needs = append(needs, waited...)
		}
	}
	if !waits {
		return w.stop(api.Failure)
	}
	w.pool[at].waits, w.pool[at].needs = true, needs
	return -1
}

// puts answers a way to put what the variables of a clause stand for; apart has made their names unlike those of a run.
func puts(stands map[string]term) func(term) term {
	return func(t term) term {
		t = t.apart()
		for variable, value := range stands {
			t = t.with(variable, value)
		}
		return t
	}
}

// ask answers what a clause says to a goal, what that waits for, and what the head's variables stand for.
func (c clause) ask(goal term) (int, []string, map[string]term) {
	f := found{waits: map[string]bool{}}
	stands := f.match(c.head.apart(), goal)
	if f.differs {
		return api.No, nil, nil
	}
	if len(f.waits) == 0 {
		for _, test := range c.tests {
			says, waits := test.mapped(puts(stands)).ask()
			if says == api.No {
				f.differs = true
			}
			if says == api.Wait {
				maps.Copy(f.waits, waits)
			}
		}
	}
	var needs []string
	for v := range f.waits {
		if !strings.HasSuffix(v, "'") {
			needs = append(needs, v)
		}
	}
	switch {
	case f.differs:
		return api.No, nil, nil
	case len(f.waits) > 0:
		return api.Wait, needs, nil
	}
	return api.Yes, nil, stands
}

// ask answers what a test says and what it waits for.
func (i item) ask() (int, map[string]bool) {
	f := found{waits: map[string]bool{}}
	if len(i.signs) == 0 {
		return i.askKinds([]term{i.terms[0].args[0]}, func() bool { return true })
	}
	a, b := i.terms[0], i.terms[1]
	switch i.signs[0] {
	case "<":
		return i.askKinds(i.terms, func() bool { return a.number().Cmp(b.number()) < 0 })
	case "=<":
		return i.askKinds(i.terms, func() bool { return a.number().Cmp(b.number()) <= 0 })
	}
	f.compare(a, b)
	same, other := api.Yes, api.No
	if i.signs[0] == "\\=" {
		same, other = other, same
	}
	switch {
	case f.differs:
		return other, nil
	case len(f.waits) > 0:
		return api.Wait, f.waits
	}
	return same, nil
}

// askKinds is for tests of numbers alone.
func (i item) askKinds(terms []term, holds func() bool) (int, map[string]bool) {
	waits := map[string]bool{}
	numbers := true
	for _, t := range terms {
		if t.isVariable() {
			waits[t.text] = true
		}
		numbers = numbers && t.isNumber()
	}
	switch {
	case len(waits) > 0:
		return api.Wait, waits
	case numbers && holds():
		return api.Yes, nil
	}
	return api.No, nil
}

func (w *world) commit(c clause, stands map[string]term) {
	all := variablesOf(variablesOf(c.head.variables(nil), c.tests), c.goals)
	for _, v := range all {
		name := term{text: v}.apart().text
		if _, met := stands[name]; !met {
			stands[name] = w.newVariable()
		}
	}
	for _, goal := range c.goals {
		w.pool = append(w.pool, pooled{item: goal.mapped(puts(stands))})
	}
}

func (w *world) isLarge() bool {
	seen := slices.Clone(w.values)
	for _, p := range w.pool {
		if len(p.signs) == 0 {
			seen = append(seen, p.terms[0].args...)
		} else {
			seen = append(seen, p.terms...)
		}
	}
	return len(w.pool) > api.MaxGoals || slices.ContainsFunc(seen, func(t term) bool { return t.size() > api.MaxSize })
}

func (w *world) result() api.Result {
	r := api.Result{End: w.end, Log: w.log}
	if w.end >= api.Failure {
		return r
	}
	known := map[string]string{}
	for _, value := range w.values {
		r.Values = append(r.Values, value.renamed(known).String())
	}
	for _, p := range w.pool {
		r.Goals = append(r.Goals, p.mapped(func(t term) term { return t.renamed(known) }).String())
		r.Waits = append(r.Waits, !w.isReady(p))
	}
	return r
}

func oracleRunErrno(program, query string, script []api.Pick) api.Errno {
	if errno, _ := oracleCheck(program); errno != api.OK {
		return errno
	}
	if len(script) > api.MaxScript {
		return api.ErrLong
	}
	errno, _ := oracleRead(query, "Query", api.MaxQuery)
	return errno
}

func oracleRun(program, query string, script []api.Pick) (api.Result, api.Errno) {
	if errno := oracleRunErrno(program, query, script); errno != api.OK {
		return api.Result{}, errno
	}
	return oracleRunOf(program, query, script), api.OK
}

// oracleRunOf is for texts that are known to be right.
func oracleRunOf(program, query string, script []api.Pick) api.Result {
	w := world{program: parseProgram(program), hasGot: map[string]bool{}}
	asked := clause{head: term{text: "query"}, goals: parseItems(tokensOf(query))}
	w.commit(asked, map[string]term{})
	for i := range w.made {
		w.values = append(w.values, term{text: "M" + decimal(i+1)})
	}
	w.run(script)
	return w.result()
}
