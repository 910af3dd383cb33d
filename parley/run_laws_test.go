package parley_test

import (
	"math/rand"
	"reflect"
	"slices"
	"strings"
	"testing"

	"parley/api"
	"parley/parley"
)

// wantLaws runs with each beginning of the script, and holds each run against the one with a pick fewer.
func wantLaws(t *testing.T, program, query string, script []api.Pick) {
	t.Helper()
	earlier, _ := parley.Run(program, query, nil)
	for n := 1; n <= len(script); n++ {
		later, errno := parley.Run(program, query, script[:n])
		if errno != api.OK {
			t.Fatalf("P12: Run(%q, %q, %v): %d", program, query, script[:n], errno)
		}
		if earlier.End != api.Open && !reflect.DeepEqual(earlier, later) {
			t.Errorf("P12: Run(%q, %q, ..) had ended with %s, and with picks behind ends with %s", program, query, resultText(earlier), resultText(later))
		}
		if earlier.End == api.Open && (len(later.Log) != n || !slices.Equal(earlier.Log, later.Log[:n-1])) {
			t.Errorf("P12: Run(%q, %q, %v): %s, and ahead of that %s", program, query, script[:n], resultText(later), resultText(earlier))
		}
		if !haveBecomeMore(earlier.Values, later.Values) {
			t.Errorf("P12: Run(%q, %q, %v): %s, and ahead of that %s", program, query, script[:n], resultText(later), resultText(earlier))
		}
		earlier = later
	}
}

// haveBecomeMore tells whether each value comes of what it was by putting terms for the variables, of which each is the same one in all values.
func haveBecomeMore(earlier, later []string) bool {
	puts := map[string]string{}
	for i := range later {
		if !comesOf(parseAnswer(later[i]), parseAnswer(earlier[i]), puts) {
			return false
		}
	}
	return true
}

// parseAnswer takes a number below 0 for a name: no text that is handed in has one.
func parseAnswer(text string) term {
	return parse(strings.ReplaceAll(text, "-", "minus"))
}

func TestARunGoesByItsScriptAlone(t *testing.T) {
	random := rand.New(rand.NewSource(8))
	for i := 0; i < 1500; i++ {
		w := words{random: random, taste: tastes[i%len(tastes)]}
		if wantLaws(t, w.program(), w.query(), randomScript(random, 30)); t.Failed() {
			return
		}
	}
	for i := 0; i < 300; i++ {
		c := known[i%len(known)]
		if wantLaws(t, c.program, c.query, randomScript(random, 60)); t.Failed() {
			return
		}
	}
}

// By whatever picks: what is asked for comes of it once all goals are worked off.
func TestWhateverThePicksAre(t *testing.T) {
	random := rand.New(rand.NewSource(9))
	for i := 0; i < 1000; i++ {
		script := randomScript(random, 0)
		for range 40 {
			script = append(script, api.Pick{G: random.Intn(50) - 25, C: random.Intn(50) - 25})
		}
		for _, c := range []struct{ program, query, values string }{
			{appends, "app(c(1,c(2,c(3,n))),c(4,n),Z)", "c(1,c(2,c(3,c(4,n))))"},
			{appends, "app(X,c(3,n),Z),X=c(1,Y),Y=c(2,W),W=n", "c(1,c(2,n)) c(1,c(2,c(3,n))) c(2,n) n"},
			{greater, "max(X,5,Y),max(Y,7,Z),X=6", "6 6 7"},
			{"s(n,S):-S=0. s(c(X,Y),S):-s(Y,T),S:=T+X.", "s(c(3,c(4,c(5,n))),S)", "12"},
		} {
			r, errno := parley.Run(c.program, c.query, script)
			if errno != api.OK || r.End != api.Success || strings.Join(r.Values, " ") != c.values {
				t.Fatalf("P8: Run(%q, %q, %v) = %s, want %s", c.program, c.query, script, resultText(r), c.values)
			}
		}
	}
}

func TestAnswersHangOnTheRunAlone(t *testing.T) {
	cases := []running{
		{appends, "app(c(1,n),Y,Z)", first(2), ""}, {appends, "app(X,Y,Z)", first(2), ""}, {"", "X=a,X=b", first(2), ""}, {"", "X=Y", first(1), ""}, {"p:-p,p.", "p", first(40), ""}, {"p", "p", nil, ""}, {"", "p", first(101), ""}, {greater, "max(1,2,Z)", first(2), ""}, {"", "X:=Y", first(2), ""}, {"", "X=f(Y,Z)", first(2), ""},
	}
	ask := func(c running) string {
		r, errno := parley.Run(c.program, c.query, c.script)
		return resultText(r) + decimal(int(errno))
	}
	var before []string
	for _, c := range cases {
		before = append(before, ask(c))
	}
	for i := len(cases) - 1; i >= 0; i-- {
		if again := ask(cases[i]); again != before[i] {
			t.Errorf("P2: %+v: %s, and once more %s", cases[i], before[i], again)
		}
	}
}

// The script, and what lies behind it in the same room, stays as it was.
func TestTheScriptStaysAsItIs(t *testing.T) {
	random := rand.New(rand.NewSource(10))
	room := make([]api.Pick, 120)
	for i := range room {
		room[i] = api.Pick{G: random.Intn(100) - 50, C: random.Intn(100) - 50}
	}
	was := slices.Clone(room)
	for _, c := range known {
		for _, n := range []int{0, 1, 7, 60, 100, 101} {
			parley.Run(c.program, c.query, room[:n])
			if !slices.Equal(room, was) {
				t.Fatalf("P2: Run(%q, %q, ..) wrote into the script", c.program, c.query)
			}
		}
	}
}

// What came out is the caller's: what is written there, spare room too, shows up in no other list and in no other answer.
func TestListsOfRunAreNewMemory(t *testing.T) {
	script := goals(0, 1, 0, 0, 1)
	ask := func() api.Result {
		r, _ := parley.Run(appends, "app(c(1,c(2,n)),Y,Z),app(X,a,W)", script)
		return r
	}
	want := ask()
	if len(want.Log) == 0 || len(want.Values) == 0 || len(want.Goals) == 0 || !slices.Contains(want.Waits, true) {
		t.Fatalf("a list is empty: %s", resultText(want))
	}
	for spoil := range 4 {
		second, r := ask(), ask()
		kept := api.Result{End: want.End, Log: slices.Clone(want.Log), Values: slices.Clone(want.Values), Goals: slices.Clone(want.Goals), Waits: slices.Clone(want.Waits)}
		overwrite(&r, spoil)
		switch spoil {
		case 0:
			kept.Log = r.Log
		case 1:
			kept.Values = r.Values
		case 2:
			kept.Goals = r.Goals
		case 3:
			kept.Waits = r.Waits
		}
		if third := ask(); !reflect.DeepEqual(r, kept) || !reflect.DeepEqual(second, want) || !reflect.DeepEqual(third, want) {
			t.Errorf("P2: list %d: %+v, %+v, %+v, want %+v", spoil, r, second, third, want)
		}
	}
}

// overwrite writes into one of the lists, with its spare room.
func overwrite(r *api.Result, which int) {
	log, values, goals, waits := r.Log[:cap(r.Log)], r.Values[:cap(r.Values)], r.Goals[:cap(r.Goals)], r.Waits[:cap(r.Waits)]
	switch which {
	case 0:
		for i := range log {
			log[i] = 99
		}
	case 1:
		for i := range values {
			values[i] = "over"
		}
	case 2:
		for i := range goals {
			goals[i] = "over"
		}
	case 3:
		for i := range waits {
			waits[i] = !waits[i]
		}
	}
}
