package tests

import (
	"math/rand"
	"slices"
	"testing"

	"loop.example/s01586/impl"
)

func TestRunCodes(t *testing.T) {
	su := setupOf(5, 4, 1000)
	want := func(what string, su impl.Setup, id int, draws []int, events []impl.ServerEvent, code int) {
		t.Helper()
		got := impl.RunServer(su, id, draws, events)
		if got.Code != code || code != 0 && !sameTrace(got, impl.ServerTrace{Code: code}) {
			t.Errorf("%s: %s, not code %d", what, told(got), code)
		}
	}
	for _, id := range append([]int{3, 4, 5}, edges...) {
		want("an id", su, id, nil, nil, ruleIf(id < 1 || id > 5, 2))
	}
	ticks := slices.Repeat([]impl.ServerEvent{evTick}, impl.MaxSteps+1)
	want("MaxDraws draws", su, 1, make([]int, impl.MaxDraws), nil, 0)
	want("one more draw", su, 1, make([]int, impl.MaxDraws+1), nil, 3)
	want("MaxSteps events", su, 1, nil, ticks[:impl.MaxSteps], 0)
	want("one more event", su, 1, nil, ticks, 3)
	for _, kind := range append([]int{3, 4, 5}, edges...) {
		for at := range 3 {
			events := []impl.ServerEvent{evCrash, evStart, evTick}
			events[at].Kind = kind
			want("a kind", su, 1, nil, events, ruleIf(kind < 1 || kind > 5, 4))
		}
	}
	many := make([]int, impl.MaxDraws+1)
	want("setup, id, draws and kind", impl.Setup{}, 9, many, []impl.ServerEvent{{}}, 1)
	want("id, draws and kind", su, 9, many, []impl.ServerEvent{{}}, 2)
	want("draws and kind", su, 5, many, []impl.ServerEvent{{}}, 3)
	want("events and kind", su, 5, nil, make([]impl.ServerEvent, impl.MaxSteps+1), 3)
	want("a kind", su, 5, nil, []impl.ServerEvent{{}}, 4)
}

// A run without events is a start: of the feed's draws one is used up.
func TestRunFirstStart(t *testing.T) {
	for _, draws := range [][]int{nil, {}, {5}, {5, 6, 7}} {
		for _, disk := range []int{0, 10, impl.MaxDisk} {
			got := run(t, setupOf(3, 4, disk), 2, draws)
			want := impl.ServerTrace{Drawn: 1, View: impl.ServerView{Id: 2, Up: 1, Disk: impl.Disk{Cap: disk}}}
			if !sameTrace(got, want) {
				t.Errorf("%s, not %s", told(got), told(want))
			}
		}
	}
}

// asksAt: the numbers of the ticks, from 1, with which the server asks first.
func asksAt(t *testing.T, su impl.Setup, draws []int, ticks int) []int {
	t.Helper()
	var out []int
	for i, o := range run(t, su, 1, draws, slices.Repeat([]impl.ServerEvent{evTick}, ticks)...).Outs {
		if len(o.Sends) > 0 {
			out = append(out, i+1)
		}
	}
	return out
}

// The start and each setting of the timer take the feed's next draw; behind its end all of them see 0.
func TestRunDraws(t *testing.T) {
	su := setupOf(3, 10, 1000)
	for _, c := range []struct{ draws, asks []int }{
		{nil, []int{10, 20, 30, 40}},
		{[]int{3}, []int{13, 23, 33, 43}},
		{[]int{3, 9, 0, 1}, []int{13, 32, 42}},
		{[]int{-1, 24}, []int{19, 33, 43}},
		{[]int{0, 0, 9, 0, 7}, []int{10, 20, 39}},
	} {
		if got := asksAt(t, su, c.draws, 45); !slices.Equal(got, c.asks) {
			t.Errorf("draws %v: asked at %v, not %v", c.draws, got, c.asks)
		}
		trace := run(t, su, 1, c.draws, slices.Repeat([]impl.ServerEvent{evTick}, 45)...)
		if trace.Drawn != 1+len(c.asks) {
			t.Errorf("draws %v: %d used up", c.draws, trace.Drawn)
		}
	}
	restarts := slices.Repeat([]impl.ServerEvent{evCrash, evStart}, 20)
	if got := run(t, su, 1, []int{1, 2, 3}, restarts...); got.Drawn != 21 {
		t.Errorf("%d draws used up", got.Drawn)
	}
	// The draw that a start uses up is not seen again: behind it the timer goes by the next one.
	events := append([]impl.ServerEvent{evCrash, evStart}, slices.Repeat([]impl.ServerEvent{evTick}, 30)...)
	trace := run(t, su, 1, []int{9, 2, 5}, events...)
	for i, o := range trace.Outs {
		if (len(o.Sends) > 0) != (i == 2+12-1 || i == 2+27-1) {
			t.Errorf("event %d: %s", i, told(o))
		}
	}
}

// Each kind of event with the server up and down.
func TestRunKindsUpAndDown(t *testing.T) {
	su := setupOf(3, 4, 1000)
	ask := evVoteAsk(2, 1, 5)
	downs := map[string][]impl.ServerEvent{"crashed": {evCrash}, "torn": {evTear(0), evVoteAsk(3, 1, 2)}}
	for what, first := range downs {
		down := run(t, su, 1, nil, first...)
		if down.View.Up != 0 {
			t.Fatalf("%s: it is up", what)
		}
		for _, ev := range []impl.ServerEvent{evTick, ask, evCall(somePut), evBytes(3, nil), evCrash, evTear(3)} {
			trace := run(t, su, 1, nil, append(slices.Clone(first), ev)...)
			if !sameOut(trace.Outs[len(first)], impl.ServerOut{Code: 1}) || !sameView(trace.View, down.View) || trace.Drawn != down.Drawn {
				t.Errorf("%s, then %s: %s", what, told(ev), told(trace))
			}
		}
		trace := run(t, su, 1, nil, append(slices.Clone(first), evStart)...)
		if !sameOut(trace.Outs[len(first)], impl.ServerOut{}) || trace.View.Up != 1 || trace.Drawn != down.Drawn+1 {
			t.Errorf("%s, then started: %s", what, told(trace))
		}
	}
	up := run(t, su, 1, nil)
	trace := run(t, su, 1, nil, evStart)
	if !sameOut(trace.Outs[0], impl.ServerOut{Code: 1}) || !sameView(trace.View, up.View) || trace.Drawn != 1 {
		t.Errorf("a start of one that is up: %s", told(trace))
	}
	for _, ev := range []impl.ServerEvent{evTick, ask, evCall(somePut), evCrash, evTear(3)} {
		if out, _ := lastOut(t, su, 1, nil, ev); out.Code != 0 {
			t.Errorf("%s: code %d", told(ev), out.Code)
		}
	}
	if out, _ := lastOut(t, su, 1, nil, evBytes(3, nil)); out.Code != 2 {
		t.Errorf("no bytes: code %d", out.Code)
	}
}

// A start of a server that is up neither sets it back nor ends its being set to tear.
func TestRunStartOfOneThatIsUp(t *testing.T) {
	su := setupOf(3, 4, 1000)
	events := append(toLead(su, 1, 1), evYes(2, 1, 1, 1), evTear(0), evStart)
	trace := run(t, su, 1, nil, events...)
	wantOut(t, "the start", trace.Outs[len(events)-1], impl.ServerOut{Code: 1, From: 1, To: 1})
	if trace.View.Role != impl.RoleLeader || trace.View.Applied != 1 {
		t.Errorf("it was set back: %s", told(trace.View))
	}
	if out, _ := lastOut(t, su, 1, nil, append(events, evCall(somePut))...); out.Code != 4 {
		t.Errorf("it tears no more: %s", told(out))
	}
}

// Fields of an event that its kind does not mention are not looked at.
func TestRunOtherFields(t *testing.T) {
	su := setupOf(3, 4, 1000)
	plain := append(toLead(su, 1, 1), evCall(somePut), evYes(3, 1, 1, 2), evTear(4), evCrash, evStart, evTear(-9), evVoteAsk(2, 1, 3), evStart)
	want := run(t, su, 1, []int{3, 1}, append(slices.Repeat([]impl.ServerEvent{evTick}, 8), plain...)...)
	filled := append(slices.Repeat([]impl.ServerEvent{evTick}, 8), plain...)
	frame := impl.EncodeMsg(impl.Msg{Kind: impl.KindVoteAsk, From: 2, To: 1, Term: 9})
	for i := range filled {
		if filled[i].Kind != impl.EvPacket {
			filled[i].From, filled[i].Bytes = 2, frame
		}
		if filled[i].Kind != impl.EvTear {
			filled[i].Keep = 5 - i
		}
	}
	if got := impl.RunServer(su, 1, []int{3, 1}, filled); !sameTrace(got, want) {
		t.Errorf("%s, not %s", told(got), told(want))
	}
}

// From and To: with entries applied, without, and of a server that is down behind the event.
func TestRunPlaces(t *testing.T) {
	su := setupOf(3, 4, 1000)
	want := func(what string, from, to int, events ...impl.ServerEvent) {
		t.Helper()
		if out, _ := lastOut(t, su, 1, nil, events...); out.From != from || out.To != to {
			t.Errorf("%s: from %d to %d, not %d to %d", what, out.From, out.To, from, to)
		}
	}
	first := evAppend(2, 1, 3, 0, 0, 2, putEntry(1, 1, "a"), putEntry(2, 2, "b"), putEntry(3, 3, "c"))
	want("nothing yet", 0, 0, evTick)
	want("two places", 0, 2, first)
	want("a tick behind it", 2, 2, first, evTick)
	want("a refused packet behind it", 2, 2, first, evBytes(2, nil))
	want("a call behind it", 2, 2, first, evCall(somePut))
	want("one that is up is started", 2, 2, first, evStart)
	want("set to tear", 2, 2, first, evTear(1))
	want("the same again", 2, 2, first, first)
	want("one place more", 2, 3, first, evAppend(2, 1, 3, 3, 3, 3))
	want("crashed", 0, 0, first, evCrash)
	want("a tick of one that is down", 0, 0, first, evCrash, evTick)
	want("started", 0, 0, first, evCrash, evStart)
	want("applied again", 0, 3, first, evCrash, evStart, evAppend(2, 1, 3, 3, 3, 3))
	more := evAppend(3, 1, 4, 3, 3, 3, blanks(4)...)
	want("torn, with a place agreed", 0, 0, first, evTear(99), more)
	want("torn, and set to tear again", 0, 0, first, evTear(0), more, evTear(0))
}

// The view of a server that is up, and of the same one when it is down.
func TestRunViews(t *testing.T) {
	su := setupOf(5, 4, 1000)
	log := []impl.Entry{putEntry(1, 1, "a"), putEntry(2, 2, "b"), {Term: 3}}
	events := []impl.ServerEvent{evAppend(2, 4, 3, 0, 0, 2, log...)}
	data := journal(hard(3, 0), recordsOf(impl.Stable{Log: log})[1], recordsOf(impl.Stable{Log: log})[2], recordsOf(impl.Stable{Log: log})[3])
	disk := impl.Disk{Cap: 1000, Synced: len(data), Data: data}
	table := impl.Table{Pairs: pairsOf("k=b"), Sessions: []impl.Session{{Client: 1, Seq: 2, Code: 1}}}
	want := impl.ServerView{Id: 4, Up: 1, Role: impl.RoleFollower, Term: 3, Leader: 2, Commit: 2, Applied: 2, Log: log, Disk: disk, Table: table}
	if got := run(t, su, 4, nil, events...).View; !sameView(got, want) {
		t.Errorf("up: %s, not %s", told(got), told(want))
	}
	down := impl.ServerView{Id: 4, Term: 3, Log: log, Disk: disk}
	if got := run(t, su, 4, nil, append(events, evCrash)...).View; !sameView(got, down) {
		t.Errorf("down: %s, not %s", told(got), told(down))
	}
	torn := down
	torn.Disk.Data = append(slices.Clone(data), journal(hard(7, 5))[:10]...)
	if got := run(t, su, 4, nil, evAppend(2, 4, 3, 0, 0, 2, log...), evTick, evTick, evTick, evTick, evTear(10), evVoteAsk(5, 4, 7)).View; !sameView(got, torn) {
		t.Errorf("torn: %s, not %s", told(got), told(torn))
	}
	torn.Disk.Data = append(slices.Clone(data), journal(hard(7, 5))...)
	torn.Term, torn.Vote = 7, 5
	if got := run(t, su, 4, nil, evAppend(2, 4, 3, 0, 0, 2, log...), evTick, evTick, evTick, evTick, evTear(11), evVoteAsk(5, 4, 7)).View; !sameView(got, torn) {
		t.Errorf("all of it kept: %s, not %s", told(got), told(torn))
	}
	leads := run(t, su, 4, nil, toLead(su, 4, 1)...).View
	if viewNumbers(leads) != [8]int{4, 1, impl.RoleLeader, 1, 4, 4, 0, 0} || !slices.Equal(leads.Log, blanks(1)) {
		t.Errorf("a leader: %s", told(leads))
	}
	stands := run(t, su, 4, nil, toStand(su, 4, 1)...).View
	if viewNumbers(stands) != [8]int{4, 1, impl.RoleCandidate, 1, 4, 0, 0, 0} {
		t.Errorf("a candidate: %s", told(stands))
	}
	asks := run(t, su, 4, nil, toStand(su, 4, 1)[:4]...).View
	if viewNumbers(asks) != [8]int{4, 1, impl.RoleAsking, 0, 0, 0, 0, 0} {
		t.Errorf("one that asks first: %s", told(asks))
	}
}

// tally counts what the events of drawn runs brought.
type tally struct {
	codes, roles, kinds    map[int]int
	done, redirects, views int
}

func (x *tally) count(trace impl.ServerTrace) {
	x.roles[trace.View.Role]++
	for _, o := range trace.Outs {
		x.codes[o.Code]++
		msgs, replies := toldSends(o.Sends)
		for _, m := range msgs {
			x.kinds[m.Kind]++
		}
		for _, r := range replies {
			if r.Status == impl.StatusDone {
				x.done++
			} else {
				x.redirects++
			}
		}
	}
}

// Drawn runs against the model, the view behind some of their beginnings too.
func TestRunDrawn(t *testing.T) {
	random := rand.New(rand.NewSource(65))
	x := tally{codes: map[int]int{}, roles: map[int]int{}, kinds: map[int]int{}}
	for range 1500 {
		su := drawSetup(random)
		id := 1 + random.Intn(su.Servers)
		draws := drawDraws(random)
		events := drawEvents(random, su, id, draws, 90)
		x.count(run(t, su, id, draws, events...))
		for range 3 {
			run(t, su, id, draws, events[:random.Intn(len(events))]...)
		}
	}
	for code := range 5 {
		if x.codes[code] < 500 {
			t.Errorf("code %d only %d times", code, x.codes[code])
		}
	}
	for _, role := range roles {
		if x.roles[role] < 20 {
			t.Errorf("role %d at the end only %d times", role, x.roles[role])
		}
	}
	for kind := 1; kind <= 6; kind++ {
		if x.kinds[kind] < 500 {
			t.Errorf("kind %d only %d times", kind, x.kinds[kind])
		}
	}
	if x.done < 500 || x.redirects < 500 {
		t.Errorf("%d done, %d redirected", x.done, x.redirects)
	}
}
