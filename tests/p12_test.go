package tests

import (
	"math/rand"
	"slices"
	"testing"

	"loop.example/s01586/impl"
)

// Promise 12: what a server says, it has on its disk.

// startedAnew: the view of the server, crashed behind these events and started anew.
func startedAnew(su impl.Setup, id int, draws []int, events []impl.ServerEvent) impl.ServerView {
	return impl.RunServer(su, id, draws, append(slices.Clone(events), evCrash, evStart)).View
}

// said counts what was said and held.
type said struct {
	places, votes int
	codes         map[int]int
}

// check looks behind the last of the events.
func (x *said) check(t *testing.T, su impl.Setup, id int, draws []int, events []impl.ServerEvent) {
	t.Helper()
	trace := impl.RunServer(su, id, draws, events)
	out := trace.Outs[len(events)-1]
	x.codes[out.Code]++
	if out.Code == 4 {
		if len(out.Sends) != 0 || trace.View.Up != 0 {
			t.Fatalf("a torn write: %s, %s", told(out), told(trace.View))
		}
		return
	}
	is, anew := trace.View, startedAnew(su, id, draws, events)
	if anew.Up != 1 || is.Term != anew.Term || is.Vote != anew.Vote || !slices.Equal(is.Log, anew.Log) {
		t.Fatalf("code %d: %s, but started anew %s", out.Code, told(is), told(anew))
	}
	msgs, _ := toldSends(out.Sends)
	for _, m := range msgs {
		switch {
		case m.Kind == impl.KindAppendReply && m.Ok == 1:
			x.places++
			if m.LogIndex > len(anew.Log) || m.Term != anew.Term {
				t.Fatalf("it said %+v, but started anew it has %s", m, told(anew))
			}
		case m.Kind == impl.KindVoteReply && m.Ok == 1:
			x.votes++
			if m.Term != anew.Term || m.To != anew.Vote {
				t.Fatalf("it said %+v, but started anew it has %s", m, told(anew))
			}
		}
	}
}

func TestP12DrawnEvents(t *testing.T) {
	random := rand.New(rand.NewSource(68))
	x := said{codes: map[int]int{}}
	for range 160 {
		su := drawSetup(random)
		id := 1 + random.Intn(su.Servers)
		draws := drawDraws(random)
		events := drawEvents(random, su, id, draws, 80)
		for n := 1; n <= len(events); n++ {
			x.check(t, su, id, draws, events[:n])
		}
	}
	for code := range 5 {
		if x.codes[code] < 80 {
			t.Errorf("code %d only %d times", code, x.codes[code])
		}
	}
	if x.places < 300 || x.votes < 50 {
		t.Errorf("%d places, %d votes", x.places, x.votes)
	}
}

// Each way to write, with every number of bytes kept of a torn write ahead of it, and on disks with any room.
func TestP12EachWrite(t *testing.T) {
	x := said{codes: map[int]int{}}
	for _, events := range writes() {
		ahead, ev := events[:len(events)-1], events[len(events)-1]
		for keep := range 60 {
			su := setupOf(3, 4, impl.MaxDisk)
			torn := slices.Concat(ahead, []impl.ServerEvent{evTear(keep), ev, evTick, evStart, ev, evTick})
			for n := len(ahead) + 1; n <= len(torn); n++ {
				x.check(t, su, 1, nil, torn[:n])
			}
			su.Disk = 2 * keep
			for n := 1; n <= len(events); n++ {
				x.check(t, su, 1, nil, events[:n])
			}
		}
	}
	if x.places < 100 || x.codes[3] < 100 || x.codes[4] < 100 {
		t.Errorf("%d places, codes %v", x.places, x.codes)
	}
}

// A cut log is cut on the disk too, also where its new end is the same length.
func TestP12ReplacedEntries(t *testing.T) {
	su := setupOf(3, 4, impl.MaxDisk)
	var events []impl.ServerEvent
	for term := 1; term <= 30; term++ {
		var entries []impl.Entry
		for i := range 1 + term%4 {
			entries = append(entries, putEntry(term, i+1, letters(term)))
		}
		events = append(events, evAppend(2+term%2, 1, term, 0, 0, 0, entries...))
	}
	x := said{codes: map[int]int{}}
	for n := 1; n <= len(events); n++ {
		x.check(t, su, 1, nil, events[:n])
	}
	if x.places != len(events) {
		t.Errorf("%d of %d messages taken", x.places, len(events))
	}
}
