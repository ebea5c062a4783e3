package tests

import (
	"math/rand"
	"runtime"
	"slices"
	"testing"
	"time"

	"loop.example/s01586/impl"
)

// Chapter 0 for the servers: draws, events and their bytes, and the room behind their ends, are only read; an answer is new memory, and no two of its lists share any.

// busyRuns: runs of server 1 of 3 in which much is sent, applied and left, each with a view of another kind.
func busyRuns() map[string][]impl.ServerEvent {
	su := setupOf(3, 4, impl.MaxDisk)
	lead := leadsWith(su, putOf(2, 5, "b", "1"), putOf(1, 1, "a", "2"), delOf(1, 2, "a"), getOf(3, 1, "b"))
	lead = append(lead, evCall(putOf(4, 1, "c", "3")), evCall(casOf(5, 1, "b", "1", "4")), evYes(3, 1, 2, 6), evYes(2, 1, 2, 8), evTick, evTick, evCall(getOf(3, 1, "b")), evBytes(11, []byte("none")))
	follow := append(slices.Clone(lead), evAppend(3, 1, 5, 7, 2, 8, putEntry(5, 9, "z"), putEntry(5, 10, "y")), evCall(somePut))
	runs := writes()
	runs["leads"] = lead
	runs["follows"] = follow
	runs["down"] = append(slices.Clone(follow), evCrash, evTick)
	runs["torn"] = append(slices.Clone(follow), evTear(20), evAppend(3, 1, 6, 7, 2, 8, putEntry(6, 9, "z"), putEntry(6, 10, "y")))
	runs["started"] = append(slices.Clone(runs["torn"]), evStart, evAppend(3, 1, 7, 7, 2, 8, putEntry(7, 9, "z")))
	return runs
}

func cloneTrace(x impl.ServerTrace) impl.ServerTrace {
	x.Outs = slices.Clone(x.Outs)
	for i := range x.Outs {
		x.Outs[i].Sends = slices.Clone(x.Outs[i].Sends)
		for j := range x.Outs[i].Sends {
			x.Outs[i].Sends[j].Bytes = slices.Clone(x.Outs[i].Sends[j].Bytes)
		}
	}
	x.View.Log, x.View.Disk.Data, x.View.Table = slices.Clone(x.View.Log), slices.Clone(x.View.Disk.Data), cloneTable(x.View.Table)
	return x
}

func spoilBytes(b []byte) {
	scribble(b[:cap(b)])
}

// roomyEvents is a copy of the events with room behind the list and behind the bytes of each, the bytes' wholes, and the whole list.
func roomyEvents(events []impl.ServerEvent) ([]impl.ServerEvent, [][]byte, []impl.ServerEvent) {
	part, whole := roomy(events, impl.ServerEvent{Kind: 70}, impl.ServerEvent{Kind: 71})
	var bytes [][]byte
	for i := range part {
		b, all := roomy(part[i].Bytes, []byte("behind")...)
		part[i].Bytes = b
		bytes = append(bytes, all)
	}
	return part, bytes, whole
}

func sameEvent(a, b impl.ServerEvent) bool {
	return a.Kind == b.Kind && a.From == b.From && a.Keep == b.Keep && slices.Equal(a.Bytes, b.Bytes)
}

func TestRunIsNewMemory(t *testing.T) {
	for what, plain := range busyRuns() {
		events, bytes, whole := roomyEvents(plain)
		draws, wholeDraws := roomy([]int{0, 0, 0, 0, 3, 1, 2}, 70, 71)
		var before [][]byte
		for _, b := range bytes {
			before = append(before, slices.Clone(b))
		}
		trace := impl.RunServer(setupOf(3, 4, 2000), 1, draws, events)
		if trace.Code != 0 || !slices.Equal(wholeDraws, []int{0, 0, 0, 0, 3, 1, 2, 70, 71}) || !slices.EqualFunc(bytes, before, slices.Equal) {
			t.Fatalf("%s: the draws or the bytes were written into", what)
		}
		if !slices.EqualFunc(whole[:len(plain)], plain, sameEvent) || whole[len(plain)].Kind != 70 || whole[len(plain)+1].Kind != 71 {
			t.Fatalf("%s: the events were written into", what)
		}
		want := cloneTrace(trace)
		for _, b := range bytes {
			spoilBytes(b)
		}
		clear(wholeDraws)
		clear(whole)
		if !sameTrace(trace, want) {
			t.Errorf("%s: the answer shares memory with the arguments", what)
		}
	}
}

// spoilList spoils one list of the trace, then takes that list from the whole one: only what shares memory with it is spoilt. False behind the last list.
func spoilList(trace, whole *impl.ServerTrace, at int) bool {
	v, w := &trace.View, &whole.View
	switch at {
	case 0:
		spoilEntries(v.Log)
		v.Log = w.Log
	case 1:
		spoilBytes(v.Disk.Data)
		v.Disk.Data = w.Disk.Data
	case 2:
		spoilPairs(v.Table.Pairs)
		v.Table.Pairs = w.Table.Pairs
	case 3:
		spoilSessions(v.Table.Sessions)
		v.Table.Sessions = w.Table.Sessions
	default:
		return spoilSends(trace, whole, at-4)
	}
	return true
}

// spoilSends goes through the packets of all events, and behind them through the lists of packets; false behind the last.
func spoilSends(trace, whole *impl.ServerTrace, at int) bool {
	for i := range trace.Outs {
		if n := len(trace.Outs[i].Sends); at < n {
			spoilBytes(trace.Outs[i].Sends[at].Bytes)
			trace.Outs[i].Sends[at].Bytes = whole.Outs[i].Sends[at].Bytes
			return true
		} else {
			at -= n
		}
	}
	if at >= len(trace.Outs) {
		return false
	}
	sends := trace.Outs[at].Sends
	clear(sends[:cap(sends)])
	trace.Outs[at].Sends = whole.Outs[at].Sends
	return true
}

func TestRunListsAreApart(t *testing.T) {
	for what, events := range busyRuns() {
		want := impl.RunServer(setupOf(3, 4, 2000), 1, nil, events)
		for at := 0; ; at++ {
			got := impl.RunServer(setupOf(3, 4, 2000), 1, nil, events)
			whole := cloneTrace(got)
			if !spoilList(&got, &whole, at) {
				break
			}
			if !sameTrace(got, want) {
				t.Fatalf("%s: list %d shares memory with another", what, at)
			}
		}
	}
}

// However often it is asked, a run answers the same: nothing hangs on the order of a map, nor on how the feed's goroutine runs.
func TestRunIsTheSameAgain(t *testing.T) {
	su := setupOf(3, 4, impl.MaxDisk)
	var cmds []impl.Cmd
	for i := range 24 {
		cmds = append(cmds, putOf(1+i*5%8, 1+i, letters(1+i*7%24), "v"))
	}
	runs := busyRuns()
	runs["many keys"] = append(leadsWith(su, cmds...), evYes(2, 1, 2, 26))
	for what, events := range runs {
		want := impl.RunServer(su, 1, []int{0, 0, 0, 0, 3, 1}, events)
		for range 10 {
			if got := impl.RunServer(su, 1, []int{0, 0, 0, 0, 3, 1}, events); !sameTrace(got, want) {
				t.Fatalf("%s: %s, and %s", what, told(got), told(want))
			}
		}
	}
}

// A run leaves no goroutine behind, whether its feed is spent or not.
func TestRunEndsItsFeed(t *testing.T) {
	before := runtime.NumGoroutine()
	for n := range 200 {
		impl.RunServer(setupOf(3, 4, 100), 1, make([]int, n*20), []impl.ServerEvent{evTick, evCrash, evStart})
		impl.RunServer(setupOf(3, 4, 100), 9, make([]int, n), nil)
	}
	wantEnded(t, before)
}

// wantEnded: there are no more goroutines than before. One that has said that it is through may need a moment to be gone.
func wantEnded(t *testing.T, before int) {
	t.Helper()
	for range 100 {
		if runtime.NumGoroutine() <= before {
			return
		}
		time.Sleep(10 * time.Millisecond)
	}
	t.Errorf("%d goroutines, %d before", runtime.NumGoroutine(), before)
}

// An empty list and no list are the same to a run; so are empty bytes and none.
func TestRunsWithEmptyLists(t *testing.T) {
	su := setupOf(3, 4, 100)
	a, b := impl.RunServer(su, 1, nil, nil), impl.RunServer(su, 1, []int{}, []impl.ServerEvent{})
	if !sameTrace(a, b) || a.Code != 0 {
		t.Errorf("%s, and %s", told(a), told(b))
	}
	a, b = impl.RunServer(su, 1, nil, []impl.ServerEvent{evBytes(2, nil)}), impl.RunServer(su, 1, nil, []impl.ServerEvent{evBytes(2, []byte{})})
	if !sameTrace(a, b) || a.Outs[0].Code != 2 {
		t.Errorf("%s, and %s", told(a), told(b))
	}
}

// Whatever it is given, a run and a client's step end without a panic.
func TestEndsTakeAnything(t *testing.T) {
	random := rand.New(rand.NewSource(70))
	edge := func() int { return edges[random.Intn(len(edges))] }
	for range 4000 {
		su := impl.Setup{Servers: edge(), Clients: edge(), Elect: edge(), Beat: edge(), Retry: edge(), Disk: edge()}
		if oneIn(random, 2) {
			su = drawSetup(random)
		}
		var events []impl.ServerEvent
		for range random.Intn(20) {
			ev := impl.ServerEvent{Kind: 1 + random.Intn(5), From: edge(), Keep: edge(), Bytes: make([]byte, random.Intn(30))}
			random.Read(ev.Bytes)
			events = append(events, ev)
		}
		trace := impl.RunServer(su, edge(), []int{edge(), edge(), edge()}, events)
		if trace.Code == 0 && len(trace.Outs) != len(events) || trace.Code != 0 && !sameTrace(trace, impl.ServerTrace{Code: trace.Code}) {
			t.Fatalf("%s", told(trace))
		}
		c := impl.Client{Id: edge(), Servers: edge(), Retry: edge(), Seq: edge(), Busy: edge(), Target: edge(), Wait: edge(), Cmd: drawCmd(random, 8, 3)}
		ev := impl.ClientEvent{Kind: edge(), Cmd: drawCmd(random, 8, 3), Reply: impl.Reply{Client: edge(), Seq: edge(), Status: edge(), Code: edge(), Leader: edge()}}
		if a := impl.StepClient(c, ev); a.Code == 9 && a != (impl.ClientAnswer{Code: 9}) {
			t.Fatalf("%+v", a)
		}
	}
}
