package tests

import (
	"slices"
	"testing"

	"loop.example/s01586/impl"
)

func setupOf(servers, elect, disk int) impl.Setup {
	return impl.Setup{Servers: servers, Clients: 2, Elect: elect, Beat: 2, Retry: 3, Disk: disk}
}

var (
	evTick  = impl.ServerEvent{Kind: impl.EvTick}
	evCrash = impl.ServerEvent{Kind: impl.EvCrash}
	evStart = impl.ServerEvent{Kind: impl.EvStart}
)

func evTear(keep int) impl.ServerEvent {
	return impl.ServerEvent{Kind: impl.EvTear, Keep: keep}
}

func evBytes(from int, b []byte) impl.ServerEvent {
	return impl.ServerEvent{Kind: impl.EvPacket, From: from, Bytes: b}
}

func evMsg(m impl.Msg) impl.ServerEvent {
	return evBytes(m.From, impl.EncodeMsg(m))
}

func evCall(c impl.Cmd) impl.ServerEvent {
	return evBytes(10+c.Client, impl.EncodeCall(c))
}

// evYes: the answer of a server that has the first places of the leader's log.
func evYes(from, to, term, places int) impl.ServerEvent {
	return evMsg(impl.Msg{Kind: impl.KindAppendReply, From: from, To: to, Term: term, Ok: 1, LogIndex: places})
}

func evVoteAsk(from, to, term int) impl.ServerEvent {
	return evMsg(impl.Msg{Kind: impl.KindVoteAsk, From: from, To: to, Term: term, LogIndex: impl.MaxLog, LogTerm: term})
}

func evAppend(from, to, term, index, logTerm, commit int, entries ...impl.Entry) impl.ServerEvent {
	return evMsg(impl.Msg{Kind: impl.KindAppend, From: from, To: to, Term: term, LogIndex: index, LogTerm: logTerm, Commit: commit, Entries: entries})
}

// grantedBy: the others whose grants, one behind another, are just enough.
func grantedBy(servers, id int) []int {
	return othersOf(impl.Node{Id: id, Size: servers})[:servers/2]
}

// toStand lets a server that shows 0 as its draws, and whose term is one less, ask first and then stand in this term.
func toStand(su impl.Setup, id, term int) []impl.ServerEvent {
	events := slices.Repeat([]impl.ServerEvent{evTick}, su.Elect)
	for _, j := range grantedBy(su.Servers, id) {
		events = append(events, evMsg(impl.Msg{Kind: impl.KindPreReply, From: j, To: id, Term: term, Ok: 1}))
	}
	return events
}

// toLead lets it lead as well.
func toLead(su impl.Setup, id, term int) []impl.ServerEvent {
	events := toStand(su, id, term)
	for _, j := range grantedBy(su.Servers, id) {
		events = append(events, evMsg(impl.Msg{Kind: impl.KindVoteReply, From: j, To: id, Term: term, Ok: 1}))
	}
	return events
}

func sameSend(a, b impl.Send) bool {
	return a.To == b.To && slices.Equal(a.Bytes, b.Bytes)
}

func sameOut(a, b impl.ServerOut) bool {
	return a.Code == b.Code && a.From == b.From && a.To == b.To && slices.EqualFunc(a.Sends, b.Sends, sameSend)
}

func viewNumbers(v impl.ServerView) [8]int {
	return [8]int{v.Id, v.Up, v.Role, v.Term, v.Vote, v.Leader, v.Commit, v.Applied}
}

func sameView(a, b impl.ServerView) bool {
	return viewNumbers(a) == viewNumbers(b) && slices.Equal(a.Log, b.Log) && sameDisk(a.Disk, b.Disk) && sameTable(a.Table, b.Table)
}

func sameTrace(a, b impl.ServerTrace) bool {
	return a.Code == b.Code && a.Drawn == b.Drawn && slices.EqualFunc(a.Outs, b.Outs, sameOut) && sameView(a.View, b.View)
}

// run is a run of server id that is also held against the model.
func run(t *testing.T, su impl.Setup, id int, draws []int, events ...impl.ServerEvent) impl.ServerTrace {
	t.Helper()
	got, want := impl.RunServer(su, id, draws, events), modelRun(su, id, draws, events)
	for i := range want.Outs {
		if i >= len(got.Outs) || !sameOut(got.Outs[i], want.Outs[i]) {
			t.Fatalf("event %d of %d, %s: %s", i, len(events), told(events[i]), told(got.Outs))
		}
	}
	if !sameTrace(got, want) {
		t.Fatalf("%s, not %s", told(got), told(want))
	}
	return got
}

// lastOut is what the last event of a run brought, and the view behind it.
func lastOut(t *testing.T, su impl.Setup, id int, draws []int, events ...impl.ServerEvent) (impl.ServerOut, impl.ServerView) {
	t.Helper()
	trace := run(t, su, id, draws, events...)
	return trace.Outs[len(events)-1], trace.View
}

func sendMsg(m impl.Msg) impl.Send {
	return impl.Send{To: m.To, Bytes: impl.EncodeMsg(m)}
}

func sendReply(r impl.Reply) impl.Send {
	return impl.Send{To: 10 + r.Client, Bytes: impl.EncodeReply(r)}
}

func doneOf(client, seq, code int, val string) impl.Send {
	return sendReply(impl.Reply{Client: client, Seq: seq, Status: impl.StatusDone, Code: code, Val: val})
}

func redirectOf(client, seq, leader int) impl.Send {
	return sendReply(impl.Reply{Client: client, Seq: seq, Status: impl.StatusRedirect, Leader: leader})
}

func wantOut(t *testing.T, what string, got, want impl.ServerOut) {
	t.Helper()
	if !sameOut(got, want) {
		t.Errorf("%s: %s, not %s", what, told(got), told(want))
	}
}

// toldSends reads what was sent, for those who look at a failed test and at the kinds of what went out.
func toldSends(sends []impl.Send) ([]impl.Msg, []impl.Reply) {
	var msgs []impl.Msg
	var replies []impl.Reply
	for _, s := range sends {
		if m := impl.DecodeMsg(s.Bytes); m.Code == 0 {
			msgs = append(msgs, m.Msg)
		}
		if r := impl.DecodeReply(s.Bytes); r.Code == 0 {
			replies = append(replies, r.Reply)
		}
	}
	return msgs, replies
}
