package tests

import (
	"math/rand"
	"reflect"
	"runtime"
	"slices"
	"strings"
	"testing"

	"loop.example/s01586/impl"
)

// Chapter 0 for the cluster: scripts, events and commands, and the room behind their ends, are only read; an answer is new memory, and no two of its lists share any.

// span is the memory of one list, with the room behind its end.
type span struct {
	from, to uintptr
	what     string
}

// spansIn gives the memory of all lists in x.
func spansIn(x any) []span {
	var out []span
	var look func(v reflect.Value, what string)
	look = func(v reflect.Value, what string) {
		switch v.Kind() {
		case reflect.Struct:
			for i := range v.NumField() {
				look(v.Field(i), what+"."+v.Type().Field(i).Name)
			}
		case reflect.Slice:
			if v.Cap() > 0 {
				out = append(out, span{v.Pointer(), v.Pointer() + uintptr(v.Cap())*v.Type().Elem().Size(), what})
			}
			for i := range v.Len() {
				look(v.Index(i), what+"[]")
			}
		}
	}
	look(reflect.ValueOf(x), "")
	return out
}

// wantApart: no two lists in these values share memory.
func wantApart(t *testing.T, what string, values ...any) {
	t.Helper()
	var all []span
	for _, x := range values {
		all = append(all, spansIn(x)...)
	}
	slices.SortFunc(all, func(a, b span) int { return int(a.from) - int(b.from) })
	for i := 1; i < len(all); i++ {
		if all[i].from < all[i-1].to {
			t.Fatalf("%s: %s shares memory with %s", what, all[i-1].what, all[i].what)
		}
	}
}

// roomyScript is a copy with room behind both lists, and a check that nothing of it was written into.
func roomyScript(sc impl.Script) (impl.Script, func() bool) {
	draws, wholeDraws := roomy(sc.Draws, 70, 71)
	steps, wholeSteps := roomy(sc.Steps, impl.Step{Kind: 70}, impl.Step{Kind: 71})
	beforeDraws, beforeSteps := slices.Clone(wholeDraws), slices.Clone(wholeSteps)
	return scriptOf(sc.Setup, draws, steps...), func() bool {
		return slices.Equal(wholeDraws, beforeDraws) && slices.Equal(wholeSteps, beforeSteps)
	}
}

func TestClusterIsNewMemory(t *testing.T) {
	random := rand.New(rand.NewSource(724))
	lists := map[string]int{}
	for range 300 {
		sc, untouched := roomyScript(drawScript(random))
		r := impl.RunCluster(sc)
		impl.TellScript(sc)
		if !untouched() {
			t.Fatalf("the script was written into: %s", modelTell(sc))
		}
		wantApart(t, "a run and its script", sc, r)
		wantApart(t, "two runs of one script", sc, r, impl.RunCluster(sc))
		for _, s := range spansIn(r) {
			lists[s.what]++
		}
	}
	for _, what := range []string{".Events", ".Facts", ".Order", ".Leads", ".Leads[].Log", ".Servers", ".Servers[].Log", ".Servers[].Disk.Data", ".Servers[].Table.Pairs", ".Servers[].Table.Sessions", ".Clients"} {
		if lists[what] < 50 {
			t.Errorf("%s was there only %d times", what, lists[what])
		}
	}
}

// What a report tells does not hang on the script that is changed behind it.
func TestClusterKeepsNothing(t *testing.T) {
	random := rand.New(rand.NewSource(725))
	for range 100 {
		sc := drawScript(random)
		got := impl.RunCluster(sc)
		want := modelCluster(cloneScript(sc))
		clear(sc.Draws)
		clear(sc.Steps)
		wantReport(t, "behind a changed script", got, want)
	}
}

func TestParseIsNewMemory(t *testing.T) {
	text := modelTell(scriptOf(plainSetup(), []int{1, 2, 3}, allSteps()...))
	a, b := impl.ParseScript(text), impl.ParseScript(text)
	wantApart(t, "two scripts of one text", a, b)
	clear(a.Script.Draws[:cap(a.Script.Draws)])
	clear(a.Script.Steps[:cap(a.Script.Steps)])
	if modelTell(b.Script) != text || modelTell(impl.ParseScript(text).Script) != text {
		t.Errorf("a script is changed by what is done to another")
	}
}

func TestLinearOnlyReads(t *testing.T) {
	random := rand.New(rand.NewSource(726))
	for range 300 {
		plainEvents, plainOrder := drawHistory(random)
		if len(plainEvents) > 0 && len(plainOrder) > 0 && oneIn(random, 2) {
			plainEvents, plainOrder = spoilHistory(random, plainEvents, plainOrder)
		}
		events, wholeEvents := roomy(plainEvents, impl.Event{Kind: 70})
		order, wholeOrder := roomy(plainOrder, getOf(1, 1, "k"))
		beforeEvents, beforeOrder := slices.Clone(wholeEvents), slices.Clone(wholeOrder)
		impl.Linear(events, order)
		if !slices.Equal(wholeEvents, beforeEvents) || !slices.Equal(wholeOrder, beforeOrder) {
			t.Fatalf("an argument was written into")
		}
	}
}

// However often it is asked, a run answers the same: nothing hangs on the order of a map, nor on how the feed's goroutine runs.
func TestClusterIsTheSameAgain(t *testing.T) {
	random := rand.New(rand.NewSource(727))
	for range 40 {
		sc := busyScript(random)
		want := impl.RunCluster(sc)
		for range 5 {
			wantReport(t, "again", impl.RunCluster(sc), want)
		}
		text := impl.RunText(modelTell(sc))
		if text != impl.RunText(modelTell(sc)) || text != modelText(want) {
			t.Fatalf("another text of %s", modelTell(sc))
		}
		if impl.Linear(want.Events, want.Order) != impl.Linear(want.Events, want.Order) {
			t.Fatalf("another judgement of %s", modelTell(sc))
		}
	}
}

// A run leaves no goroutine behind, whether its feed is spent or not and whether its fuel is.
func TestClusterEndsItsFeed(t *testing.T) {
	before := runtime.NumGoroutine()
	for n := range 100 {
		impl.RunCluster(scriptOf(plainSetup(), make([]int, n*40), stCalm(5), stTick(1, 5)))
		impl.RunCluster(scriptOf(plainSetup(), make([]int, n*40), stCalm(0)))
		impl.RunText(headText + strings.Repeat("calm 3\n", n))
	}
	for range 3 {
		impl.RunCluster(scriptOf(plainSetup(), make([]int, 4096), slices.Repeat([]impl.Step{stTick(1, 10000)}, 7)...))
	}
	wantEnded(t, before)
}

func TestClusterWithEmptyLists(t *testing.T) {
	wantReport(t, "empty lists", impl.RunCluster(impl.Script{Setup: plainSetup(), Draws: []int{}, Steps: []impl.Step{}}), impl.RunCluster(impl.Script{Setup: plainSetup()}))
	if impl.TellScript(impl.Script{Setup: plainSetup(), Draws: []int{}, Steps: []impl.Step{}}) != impl.TellScript(impl.Script{Setup: plainSetup()}) {
		t.Errorf("empty lists are told in another way")
	}
}

// Whatever they are given, the calls end without a panic, and say the same of one script.
func TestClusterTakesAnything(t *testing.T) {
	random := rand.New(rand.NewSource(728))
	edge := func() int { return edges[random.Intn(len(edges))] }
	for range 3000 {
		sc := impl.Script{Setup: impl.Setup{Servers: edge(), Clients: edge(), Elect: edge(), Beat: edge(), Retry: edge(), Disk: edge()}}
		if !oneIn(random, 4) {
			sc.Setup = drawClusterSetup(random)
		}
		for range random.Intn(5) {
			st := impl.Step{Kind: random.Intn(16), A: edge(), B: edge(), C: edge(), Cmd: drawCmd(random, 8, 3)}
			if oneIn(random, 2) {
				st = drawRough(random, impl.Setup{Servers: 7, Clients: 8, Elect: 5})
			}
			sc.Steps = append(sc.Steps, st)
		}
		for range random.Intn(3) {
			sc.Draws = append(sc.Draws, edge())
		}
		r, text := impl.RunCluster(sc), impl.TellScript(sc)
		if r.Code == 1 && (text != "" || reportDiff(r, impl.Report{Code: 1}) != "") {
			t.Fatalf("%s is told as %q, and run as %s", told(sc), text, told(r))
		}
		if text != "" && modelText(r) != impl.RunText(text) {
			t.Fatalf("%s is run in another way than its text", told(sc))
		}
		var events []impl.Event
		for range random.Intn(6) {
			events = append(events, impl.Event{Kind: random.Intn(4), Cmd: drawCmd(random, 8, 3), Code: random.Intn(6), Val: letters(random.Intn(70))})
		}
		order := []impl.Cmd{drawCmd(random, 8, 3), {}, drawCmd(random, 8, 3)}[:random.Intn(4)]
		if got, want := impl.Linear(events, order), modelLinear(events, order); got != want {
			t.Fatalf("%+v, not %+v: %s, %s", got, want, told(events), told(order))
		}
		impl.WindowBound(sc.Setup, edge(), edge())
	}
	for range 3000 {
		b := make([]byte, random.Intn(60))
		for i := range b {
			b[i] = " \n01x"[random.Intn(5)]
			if oneIn(random, 5) {
				b[i] = byte(random.Intn(256))
			}
		}
		got := impl.ParseScript(string(b))
		if code, line := modelParse(string(b)); got.Code != code || got.Line != line {
			t.Fatalf("%q: code %d in line %d, not %d in %d", b, got.Code, got.Line, code, line)
		}
		impl.RunText(string(b))
	}
}

func TestClusterDrawnScripts(t *testing.T) {
	random := rand.New(rand.NewSource(729))
	var refused, full, down int
	for range 500 {
		r := play(t, drawScript(random))
		refused += r.Refused
		full += r.Full
		for _, v := range r.Servers {
			down += 1 - v.Up
		}
	}
	for range 15 {
		play(t, busyScript(random))
	}
	if refused < 300 || full < 50 || down < 100 {
		t.Errorf("only %d packets refused, %d times full, %d servers down", refused, full, down)
	}
}
