package tests

import (
	"slices"
	"strconv"
	"testing"

	"loop.example/s01586/impl"
)

// wantRefused checks that the packet is refused in every role, and that nothing happens.
func wantRefused(t *testing.T, what string, ev impl.ServerEvent) {
	t.Helper()
	su := setupOf(3, 4, 1000)
	for _, n := range []int{0, su.Elect, su.Elect + 1, su.Elect + 2} {
		ahead := toLead(su, 1, 1)[:n]
		before := run(t, su, 1, nil, ahead...)
		trace := run(t, su, 1, nil, append(ahead, ev)...)
		if !sameOut(trace.Outs[n], impl.ServerOut{Code: 2}) || !sameView(trace.View, before.View) || trace.Drawn != before.Drawn {
			t.Errorf("%s: %s", what, told(trace))
		}
	}
}

func TestPacketsRefused(t *testing.T) {
	ask := impl.Msg{Kind: impl.KindVoteAsk, From: 2, To: 1, Term: 5}
	frame := impl.EncodeMsg(ask)
	wantRefused(t, "no bytes", evBytes(2, nil))
	wantRefused(t, "few bytes", evBytes(2, frame[:8]))
	wantRefused(t, "a byte short", evBytes(2, frame[:len(frame)-1]))
	wantRefused(t, "a byte long", evBytes(2, append(slices.Clone(frame), 0)))
	wantRefused(t, "too many bytes", evBytes(2, make([]byte, impl.MaxFrame+1)))
	for at := range frame {
		wantRefused(t, "a spoilt byte", evBytes(2, impl.Spoil(frame, at, 100)))
	}
	for _, from := range []int{0, 1, 3, 7, 11, 12, -2, edges[0], edges[len(edges)-1]} {
		wantRefused(t, "a message of another", evBytes(from, frame))
	}
	for _, to := range []int{3, 7} {
		ask.To = to
		wantRefused(t, "a message to another", evMsg(ask))
	}
	ask.From, ask.To = 1, 2
	wantRefused(t, "a message of its own", evMsg(ask))
	wantRefused(t, "an ill-formed message", evBytes(2, seal(msgParts(impl.Msg{Kind: impl.KindVoteAsk, From: 2, To: 1, Term: 5, LogIndex: 3})...)))
	wantRefused(t, "a reply", evBytes(11, impl.EncodeReply(impl.Reply{Client: 1, Seq: 1, Status: impl.StatusDone, Code: 1})))
	wantRefused(t, "a record", evBytes(2, impl.EncodeRecords([]impl.Record{hard(1, 1)})))
	call := impl.EncodeCall(putOf(3, 1, "k", "v"))
	for _, from := range []int{0, 1, 3, 7, 11, 12, 14, 23, -13, edges[0], edges[len(edges)-1]} {
		wantRefused(t, "a call of another", evBytes(from, call))
	}
	wantRefused(t, "a call of no command", evBytes(10, seal(callParts(impl.Cmd{})...)))
	wantRefused(t, "an ill-formed call", evBytes(11, seal(callParts(impl.Cmd{Client: 1, Seq: 1, Op: impl.OpGet, Key: "k", Val: "v"})...)))
	wantRefused(t, "a spoilt call", evBytes(13, impl.Spoil(call, 9, 1)))
}

// A message that the core does not take is no refused packet: Code is 0.
func TestPacketsOfNoEffect(t *testing.T) {
	su := setupOf(3, 4, 1000)
	before := run(t, su, 1, nil)
	for what, m := range map[string]impl.Msg{
		"from beyond the cluster": {Kind: impl.KindVoteAsk, From: 7, To: 1, Term: 5},
		"an answer to no ask":     {Kind: impl.KindVoteReply, From: 2, To: 1, Term: 5, Ok: 1},
	} {
		trace := run(t, su, 1, nil, evMsg(m))
		if trace.Outs[0].Code != 0 || len(trace.Outs[0].Sends) != 0 {
			t.Errorf("%s: %s", what, told(trace.Outs))
		}
		if m.From == 7 && !sameView(trace.View, before.View) {
			t.Errorf("%s: %s", what, told(trace.View))
		}
	}
}

// Messages of each kind come to the core and their answers go out, each to its server.
func TestPacketsToTheCore(t *testing.T) {
	su := setupOf(5, 4, 1000)
	answer := func(m impl.Msg) []impl.Send {
		m.From = 3
		return []impl.Send{sendMsg(m)}
	}
	out, view := lastOut(t, su, 3, nil, evMsg(impl.Msg{Kind: impl.KindPreAsk, From: 5, To: 3, Term: 2}))
	wantOut(t, "a pre-ask", out, impl.ServerOut{Sends: answer(impl.Msg{Kind: impl.KindPreReply, To: 5, Term: 2, Ok: 1})})
	if view.Term != 0 || len(view.Disk.Data) != 0 {
		t.Errorf("a pre-ask: %s", told(view))
	}
	out, view = lastOut(t, su, 3, nil, evVoteAsk(4, 3, 6))
	wantOut(t, "a vote", out, impl.ServerOut{Sends: answer(impl.Msg{Kind: impl.KindVoteReply, To: 4, Term: 6, Ok: 1})})
	if data := journal(hard(6, 4)); view.Vote != 4 || !sameDisk(view.Disk, impl.Disk{Cap: 1000, Synced: len(data), Data: data}) {
		t.Errorf("a vote: %s", told(view))
	}
	out, view = lastOut(t, su, 3, nil, evVoteAsk(4, 3, 6), evAppend(2, 3, 6, 0, 0, 1, blanks(2, 6)...))
	wantOut(t, "entries", out, impl.ServerOut{To: 1, Sends: answer(impl.Msg{Kind: impl.KindAppendReply, To: 2, Term: 6, Ok: 1, LogIndex: 2})})
	if data := journal(hard(6, 4), add(1, 2), add(2, 6)); view.Leader != 2 || !slices.Equal(view.Disk.Data, data) || view.Disk.Synced != len(data) {
		t.Errorf("entries: %s", told(view))
	}
	events := toLead(su, 3, 1)
	n := impl.Node{Id: 3, Size: 5}
	outs := run(t, su, 3, nil, events...).Outs
	for i, want := range map[int][]impl.Msg{
		3: toAll(n, impl.Msg{Kind: impl.KindPreAsk, Term: 1}),
		4: nil,
		5: toAll(n, impl.Msg{Kind: impl.KindVoteAsk, Term: 1}),
		6: nil,
		7: toAll(n, impl.Msg{Kind: impl.KindAppend, Term: 1, Entries: blanks(1)}),
	} {
		var sends []impl.Send
		for _, m := range want {
			sends = append(sends, sendMsg(m))
		}
		wantOut(t, "on the way to lead", outs[i], impl.ServerOut{Sends: sends})
	}
}

// A replaced end of the log goes to disk as a cut and what is added.
func TestPacketsReplaceEntries(t *testing.T) {
	su := setupOf(3, 4, 1000)
	events := []impl.ServerEvent{evAppend(2, 1, 3, 0, 0, 1, putEntry(1, 1, "a"), putEntry(1, 2, "b"), putEntry(3, 3, "c")), evAppend(3, 1, 5, 1, 1, 1, blanks(4, 5)...)}
	_, view := lastOut(t, su, 1, nil, events...)
	first := recordsOf(impl.Stable{Term: 3, Log: []impl.Entry{putEntry(1, 1, "a"), putEntry(1, 2, "b"), putEntry(3, 3, "c")}})
	data := journal(append(first, hard(5, 0), cut(1), add(2, 4), add(3, 5))...)
	if !slices.Equal(view.Disk.Data, data) || !slices.Equal(view.Log, append([]impl.Entry{putEntry(1, 1, "a")}, blanks(4, 5)...)) {
		t.Errorf("%s", told(view))
	}
}

// A server that is not the leader sends the client on, to the leader that it knows of or to none.
func TestCallsRedirected(t *testing.T) {
	su := setupOf(5, 4, 1000)
	heard := evAppend(2, 3, 1, 0, 0, 0)
	ways := []struct {
		events []impl.ServerEvent
		leader int
	}{
		{nil, 0}, {[]impl.ServerEvent{heard}, 2}, {[]impl.ServerEvent{heard, evAppend(5, 3, 2, 0, 0, 0)}, 5}, {[]impl.ServerEvent{heard, evTick, evTick, evTick}, 2},
		{[]impl.ServerEvent{heard, evTick, evTick, evTick, evTick}, 0}, {[]impl.ServerEvent{heard, evCrash, evStart}, 0}, {toLead(su, 3, 1)[:4], 0}, {toStand(su, 3, 1), 0}, {append(toLead(su, 3, 1), evAppend(4, 3, 2, 0, 0, 0)), 4},
	}
	for _, c := range cmdSamples() {
		for i, way := range ways {
			if c.Seq > 2 && i != c.Client%len(ways) {
				continue
			}
			before := run(t, su, 3, nil, way.events...)
			trace := run(t, su, 3, nil, append(slices.Clone(way.events), evCall(c))...)
			wantOut(t, "a redirection", trace.Outs[len(way.events)], impl.ServerOut{Sends: []impl.Send{redirectOf(c.Client, c.Seq, way.leader)}})
			if !sameView(before.View, trace.View) || before.Drawn != trace.Drawn {
				t.Errorf("a redirection changed %s", told(trace.View))
			}
		}
	}
}

// What an event brings holds what went out in that very event: not what went out ahead of it, and not nothing.
func TestSendsAreOfTheirEvent(t *testing.T) {
	su := setupOf(3, 4, 1000)
	first, second := getOf(1, 1, "k"), putOf(2, 5, "k", "v")
	trace := run(t, su, 1, nil, evStart, evCall(first), evStart, evCall(second), evTick)
	wants := []impl.ServerOut{{Code: 1}, {Sends: []impl.Send{redirectOf(1, 1, 0)}}, {Code: 1}, {Sends: []impl.Send{redirectOf(2, 5, 0)}}, {}}
	for i, want := range wants {
		wantOut(t, "event "+strconv.Itoa(i), trace.Outs[i], want)
	}
	report := impl.RunCluster(impl.Script{Setup: su, Steps: []impl.Step{{Kind: impl.StAsk, A: 1, Cmd: getOf(0, 0, "k")}, {Kind: impl.StDeliver}}})
	if report.Code != 0 || report.Packets != 1 {
		t.Errorf("a call that is redirected leaves %d packets: %s", report.Packets, told(report))
	}
}

// leadsWith: events by which server 1 of 3 leads in term 2 with these commands in its log, behind a blank entry of term 1 and ahead of its own.
func leadsWith(su impl.Setup, cmds ...impl.Cmd) []impl.ServerEvent {
	entries := blanks(1)
	for _, c := range cmds {
		entries = append(entries, impl.Entry{Term: 1, Cmd: c})
	}
	return append([]impl.ServerEvent{evAppend(2, 1, 1, 0, 0, 0, entries...)}, toLead(su, 1, 2)...)
}

func appendTo(to, term, index, logTerm, commit int, entries ...impl.Entry) impl.Send {
	return sendMsg(impl.Msg{Kind: impl.KindAppend, From: 1, To: to, Term: term, LogIndex: index, LogTerm: logTerm, Commit: commit, Entries: entries})
}

// A leader proposes a new command, answers one that was carried out, and leaves alone what is under way or past.
func TestCallsToALeader(t *testing.T) {
	su := setupOf(3, 4, 1000)
	lead := leadsWith(su)
	first, second := putOf(1, 7, "k", "v"), getOf(1, 8, "k")
	out, view := lastOut(t, su, 1, nil, append(lead, evCall(first))...)
	wantOut(t, "a new command", out, impl.ServerOut{Sends: []impl.Send{
		appendTo(2, 2, 1, 1, 0, impl.Entry{Term: 2}, impl.Entry{Term: 2, Cmd: first}), appendTo(3, 2, 1, 1, 0, impl.Entry{Term: 2}, impl.Entry{Term: 2, Cmd: first}),
	}})
	if len(view.Log) != 3 || view.Log[2] != (impl.Entry{Term: 2, Cmd: first}) || view.Applied != 0 {
		t.Errorf("a new command: %s", told(view))
	}
	for _, c := range []impl.Cmd{first, delOf(1, 7, "other")} {
		out, again := lastOut(t, su, 1, nil, append(lead, evCall(first), evCall(c))...)
		wantOut(t, "under way", out, impl.ServerOut{})
		if !sameView(view, again) {
			t.Errorf("under way: %s", told(again))
		}
	}
	done := append(lead, evCall(first), evCall(second), evYes(3, 1, 2, 4))
	out, view = lastOut(t, su, 1, nil, done...)
	wantOut(t, "agreed", out, impl.ServerOut{To: 4, Sends: []impl.Send{doneOf(1, 7, 1, ""), doneOf(1, 8, 1, "v")}})
	calls := []struct {
		c    impl.Cmd
		want []impl.Send
	}{
		{second, []impl.Send{doneOf(1, 8, 1, "v")}}, {putOf(1, 8, "k", "x"), []impl.Send{doneOf(1, 8, 1, "v")}}, {first, nil}, {getOf(1, 1, "k"), nil},
	}
	for _, call := range calls {
		out, again := lastOut(t, su, 1, nil, append(done, evCall(call.c))...)
		wantOut(t, "carried out", out, impl.ServerOut{From: 4, To: 4, Sends: call.want})
		if !sameView(view, again) {
			t.Errorf("carried out: %s", told(again))
		}
	}
	for _, c := range []impl.Cmd{getOf(1, 9, "k"), getOf(1, impl.MaxSeq, "k"), getOf(2, 7, "k"), getOf(2, 8, "k"), getOf(8, 1, "k")} {
		out, more := lastOut(t, su, 1, nil, append(done, evCall(c))...)
		if len(out.Sends) != 2 || len(more.Log) != 5 || more.Log[4].Cmd != c {
			t.Errorf("%+v: %s, %s", c, told(out), told(more))
		}
	}
}

// What stands in the log from before, and is not applied yet, is under way too.
func TestCallsUnderWayFromBefore(t *testing.T) {
	su := setupOf(3, 4, 1000)
	c := putOf(2, 4, "k", "v")
	events := leadsWith(su, putOf(1, 1, "a", ""), c)
	out, view := lastOut(t, su, 1, nil, append(events, evCall(putOf(2, 4, "other", "")))...)
	wantOut(t, "under way", out, impl.ServerOut{})
	if len(view.Log) != 4 {
		t.Errorf("under way: %s", told(view))
	}
	for _, other := range []impl.Cmd{putOf(2, 3, "k", "v"), putOf(2, 5, "k", "v"), putOf(3, 4, "k", "v")} {
		if out, _ := lastOut(t, su, 1, nil, append(events, evCall(other))...); len(out.Sends) != 2 {
			t.Errorf("%+v: %s", other, told(out))
		}
	}
}

// Messages go out first, then the replies of all that is applied, in the log's order; blank entries and past commands bring none.
func TestSendsInOrder(t *testing.T) {
	su := setupOf(3, 4, 1000)
	events := leadsWith(su, putOf(2, 5, "a", "1"), putOf(1, 1, "a", "2"), getOf(2, 5, "b"), getOf(2, 4, "a"), delOf(1, 2, "a"))
	events = append(events, evCall(getOf(3, 1, "z")), evCall(getOf(4, 1, "y")))
	out, view := lastOut(t, su, 1, nil, append(events, evYes(3, 1, 2, 8))...)
	wantOut(t, "agreed", out, impl.ServerOut{To: 8, Sends: []impl.Send{
		appendTo(3, 2, 8, 2, 8, impl.Entry{Term: 2, Cmd: getOf(4, 1, "y")}),
		doneOf(2, 5, 1, ""), doneOf(1, 1, 1, ""), doneOf(2, 5, 1, ""), doneOf(1, 2, 1, "2"), doneOf(3, 1, 2, ""),
	}})
	if view.Commit != 8 || view.Applied != 8 || len(view.Log) != 9 {
		t.Errorf("%s", told(view))
	}
	out, _ = lastOut(t, su, 1, nil, append(events, evYes(3, 1, 2, 8), evYes(2, 1, 2, 9))...)
	wantOut(t, "the rest", out, impl.ServerOut{From: 8, To: 9, Sends: []impl.Send{doneOf(4, 1, 2, "")}})
}

// Only a leader that applies replies: a follower applies the same without a word to the clients.
func TestFollowersDoNotReply(t *testing.T) {
	su := setupOf(3, 4, 1000)
	events := append(leadsWith(su, putOf(2, 5, "a", "1")), evAppend(3, 1, 3, 3, 2, 3))
	out, view := lastOut(t, su, 1, nil, events...)
	wantOut(t, "a follower again", out, impl.ServerOut{To: 3, Sends: []impl.Send{sendMsg(impl.Msg{Kind: impl.KindAppendReply, From: 1, To: 3, Term: 3, Ok: 1, LogIndex: 3})}})
	if view.Applied != 3 || len(view.Table.Pairs) != 1 || len(view.Table.Sessions) != 1 {
		t.Errorf("%s", told(view))
	}
}

// fill: events by which server 1 of 3 takes n blank entries of term 1 from server 2.
func fill(n int) []impl.ServerEvent {
	var events []impl.ServerEvent
	for at := 0; at < n; at += impl.MaxBatch {
		events = append(events, evAppend(2, 1, 1, at, min(at, 1), 0, blanks(numbers(min(impl.MaxBatch, n-at), 1)...)...))
	}
	return events
}

// A call to a leader whose log is full has no effect; one place less and it is proposed.
func TestCallsWithTheLogFull(t *testing.T) {
	su := setupOf(3, 4, impl.MaxDisk)
	full := append(fill(impl.MaxLog-1), toLead(su, 1, 2)...)
	trace := impl.RunServer(su, 1, nil, append(full, evCall(somePut)))
	if out := trace.Outs[len(full)]; !sameOut(out, impl.ServerOut{}) || len(trace.View.Log) != impl.MaxLog || trace.View.Role != impl.RoleLeader {
		t.Errorf("%s, %d entries", told(out), len(trace.View.Log))
	}
	almost := append(fill(impl.MaxLog-2), toLead(su, 1, 2)...)
	trace = impl.RunServer(su, 1, nil, append(almost, evCall(somePut)))
	if out := trace.Outs[len(almost)]; out.Code != 0 || len(out.Sends) != 2 || trace.View.Log[impl.MaxLog-1].Cmd != somePut {
		t.Errorf("%s, %d entries", told(out), len(trace.View.Log))
	}
}
