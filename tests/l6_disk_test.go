package tests

import (
	"slices"
	"testing"

	"loop.example/s01586/impl"
)

// writes: runs of server 1 of 3 whose last event is the one that writes, each in another way.
func writes() map[string][]impl.ServerEvent {
	su := setupOf(3, 4, impl.MaxDisk)
	first := evAppend(2, 1, 3, 0, 0, 1, putEntry(1, 1, "a"), putEntry(1, 2, "b"), putEntry(3, 3, "c"))
	lead := leadsWith(su, putOf(1, 1, "a", "1"))
	candidate := append([]impl.ServerEvent{first}, toStand(su, 1, 4)...)
	return map[string][]impl.ServerEvent{
		"a vote":                   {evVoteAsk(2, 1, 5)},
		"a second vote":            {evVoteAsk(2, 1, 5), evTick, evVoteAsk(3, 1, 6)},
		"a term without a vote":    {first, evTick, evTick, evTick, evTick, evMsg(impl.Msg{Kind: impl.KindVoteAsk, From: 3, To: 1, Term: 9})},
		"a term and entries":       {evTick, first},
		"entries alone":            {first, evTick, evAppend(2, 1, 3, 3, 3, 4, putEntry(3, 4, "d"), putEntry(3, 5, "e"))},
		"a cut and entries":        {first, evTick, evAppend(3, 1, 5, 1, 1, 3, blanks(4, 5)...)},
		"a term and no entries":    {first, evTick, evAppend(3, 1, 5, 1, 1, 3)},
		"standing":                 candidate,
		"a leader's blank entry":   toLead(su, 1, 1),
		"a call":                   append(slices.Clone(lead), evTick, evCall(putOf(2, 7, "k", "v"))),
		"a call with places done":  append(slices.Clone(lead), evYes(3, 1, 2, 3), evTick, evCall(putOf(2, 7, "k", "v"))),
		"a leader's higher term":   append(slices.Clone(lead), evYes(3, 1, 2, 3), evMsg(impl.Msg{Kind: impl.KindAppendReply, From: 2, To: 1, Term: 7})),
		"another leader's entries": append(slices.Clone(lead), evAppend(3, 1, 8, 3, 2, 3, putEntry(8, 9, "z"))),
	}
}

// behindIt: events in which what the core, the disk and the feed are shows.
func behindIt() []impl.ServerEvent {
	events := slices.Repeat([]impl.ServerEvent{evTick}, 9)
	events = append(events, evCall(putOf(3, 3, "x", "")), evMsg(impl.Msg{Kind: impl.KindPreAsk, From: 2, To: 1, Term: 30, LogIndex: 9, LogTerm: 9}))
	return append(events, slices.Repeat([]impl.ServerEvent{evTick}, 9)...)
}

// The disk that just has room takes the step; one byte less and the whole step is undone.
func TestFullDiskUndoesTheStep(t *testing.T) {
	for what, events := range writes() {
		ahead, ev := events[:len(events)-1], events[len(events)-1]
		su := setupOf(3, 4, impl.MaxDisk)
		before, behind := run(t, su, 1, nil, ahead...), run(t, su, 1, nil, events...)
		room := len(behind.View.Disk.Data)
		if room <= len(before.View.Disk.Data) {
			t.Fatalf("%s: nothing was written", what)
		}
		su.Disk = room
		if out, view := lastOut(t, su, 1, nil, events...); out.Code != 0 || len(view.Disk.Data) != room || view.Disk.Synced != room {
			t.Errorf("%s, with just enough room: %s, %s", what, told(out), told(view))
		}
		for su.Disk = len(before.View.Disk.Data); su.Disk < room; su.Disk++ {
			trace := run(t, su, 1, nil, append(slices.Clone(ahead), ev)...)
			was := before.View
			was.Disk.Cap = su.Disk
			if out := trace.Outs[len(ahead)]; !sameOut(out, impl.ServerOut{Code: 3, From: was.Applied, To: was.Applied}) || !sameView(trace.View, was) || trace.Drawn != before.Drawn {
				t.Errorf("%s, room for %d of %d bytes: %s, %s", what, su.Disk, room, told(out), told(trace))
			}
		}
	}
}

// Behind a step that was undone, all goes on as if the event had not been.
func TestFullDiskLeavesTheRest(t *testing.T) {
	for what, events := range writes() {
		ahead, ev := events[:len(events)-1], events[len(events)-1]
		su := setupOf(3, 4, impl.MaxDisk)
		before := run(t, su, 1, nil, ahead...)
		su.Disk = len(before.View.Disk.Data)
		// Behind those used up so far no two draws in a row are alike, so that one that is lost or seen twice shows.
		for _, draws := range [][]int{nil, append(numbers(before.Drawn, 0), 3, 1, 2, 3, 2, 1)} {
			tail := behindIt()
			with := run(t, su, 1, draws, slices.Concat(ahead, []impl.ServerEvent{ev, ev}, tail)...)
			without := run(t, su, 1, draws, slices.Concat(ahead, tail)...)
			for i, n := range []int{len(ahead), len(ahead) + 1} {
				if with.Outs[n].Code != 3 || len(with.Outs[n].Sends) != 0 {
					t.Errorf("%s, time %d: %s", what, i, told(with.Outs[n]))
				}
			}
			with.Outs = slices.Delete(with.Outs, len(ahead), len(ahead)+2)
			if !sameTrace(with, without) {
				t.Errorf("%s: %s, not %s", what, told(with), told(without))
			}
		}
	}
}

// The draw that an undone step would have used is the next one's to see.
func TestFullDiskKeepsTheDraw(t *testing.T) {
	su := setupOf(3, 10, 0)
	for _, vote := range []int{0, 1, 5} {
		events := slices.Concat(slices.Repeat([]impl.ServerEvent{evVoteAsk(2, 1, 5)}, vote), slices.Repeat([]impl.ServerEvent{evTick}, 40))
		trace := run(t, su, 1, []int{2, 7, 4}, events...)
		var asked []int
		for i, o := range trace.Outs[vote:] {
			if len(o.Sends) > 0 {
				asked = append(asked, i+1)
			}
		}
		if !slices.Equal(asked, []int{12, 29}) || trace.Drawn != 3 {
			t.Errorf("%d votes: asked at %v, %d drawn", vote, asked, trace.Drawn)
		}
	}
}

// A tick writes nothing, so it goes on with a full disk: a leader sends and steps down, another asks first.
func TestFullDiskLetsTick(t *testing.T) {
	su := setupOf(3, 4, 0)
	out, view := lastOut(t, su, 1, nil, evTick, evTick, evTick, evTick)
	if out.Code != 0 || len(out.Sends) != 2 || view.Role != impl.RoleAsking {
		t.Errorf("%s, %s", told(out), told(view))
	}
	out, view = lastOut(t, su, 1, nil, toStand(su, 1, 1)...)
	if out.Code != 3 || view.Role != impl.RoleAsking || view.Term != 0 || view.Vote != 0 {
		t.Errorf("standing: %s, %s", told(out), told(view))
	}
	su.Disk = len(journal(hard(1, 1), add(1, 1)))
	trace := run(t, su, 1, nil, append(toLead(su, 1, 1), evTick, evTick, evTick, evTick)...)
	for i, n := range []int{0, 2, 0, 0} {
		if out := trace.Outs[su.Elect+2+i]; out.Code != 0 || len(out.Sends) != n {
			t.Errorf("tick %d of a leader: %s", i+1, told(out))
		}
	}
	if trace.View.Role != impl.RoleFollower || trace.View.Term != 1 {
		t.Errorf("%s", told(trace.View))
	}
}

// A write that is too great leaves room for a lesser one, and what needs no write goes on.
func TestFullDiskTakesLess(t *testing.T) {
	su := setupOf(3, 4, 30)
	entries := evAppend(2, 1, 3, 0, 0, 0, putEntry(3, 1, letters(60)))
	trace := run(t, su, 1, nil, entries, evVoteAsk(3, 1, 2), evMsg(impl.Msg{Kind: impl.KindPreAsk, From: 2, To: 1, Term: 9}), entries, evCall(somePut))
	for i, code := range []int{3, 0, 0, 3, 0} {
		if trace.Outs[i].Code != code || (len(trace.Outs[i].Sends) == 0) != (code == 3) {
			t.Errorf("event %d: %s", i, told(trace.Outs[i]))
		}
	}
	if !slices.Equal(trace.View.Disk.Data, journal(hard(2, 3))) {
		t.Errorf("%s", told(trace.View))
	}
}

// Of the torn write the bytes to keep stay, at least none and at most all; nothing is sent and nothing applied; a start reads what is left.
func TestTornWrites(t *testing.T) {
	for what, events := range writes() {
		ahead, ev := events[:len(events)-1], events[len(events)-1]
		su := setupOf(3, 4, impl.MaxDisk)
		before, behind := run(t, su, 1, nil, ahead...), run(t, su, 1, nil, events...)
		old, all := before.View.Disk.Data, behind.View.Disk.Data
		keeps := []int{edges[0], -1, len(all) - len(old) + 1, edges[len(edges)-1]}
		for keep := range len(all) - len(old) + 1 {
			keeps = append(keeps, keep)
		}
		for _, keep := range keeps {
			left := len(old) + max(0, min(keep, len(all)-len(old)))
			lies := impl.Disk{Cap: su.Disk, Synced: len(old), Data: all[:left]}
			torn := slices.Concat(ahead, []impl.ServerEvent{evTear(keep), ev})
			trace := run(t, su, 1, nil, torn...)
			st := impl.Recover(lies.Data).Stable
			want := impl.ServerView{Id: 1, Term: st.Term, Vote: st.Vote, Log: st.Log, Disk: lies}
			if !sameOut(trace.Outs[len(torn)-1], impl.ServerOut{Code: 4}) || !sameView(trace.View, want) || trace.Drawn != behind.Drawn {
				t.Errorf("%s, keep %d: %s, not %s", what, keep, told(trace), told(want))
			}
			back := run(t, su, 1, nil, append(torn, evStart)...)
			want.Up, want.Disk = 1, impl.Restart(lies).Disk
			if !sameOut(back.Outs[len(torn)], impl.ServerOut{}) || !sameView(back.View, want) || back.Drawn != behind.Drawn+1 {
				t.Errorf("%s, keep %d, started: %s, not %s", what, keep, told(back), told(want))
			}
		}
	}
}

// The newer of two settings counts; a crash and a start end it, and so does the tear itself.
func TestTearIsReplacedAndEnded(t *testing.T) {
	su := setupOf(3, 4, 1000)
	ask, second := evVoteAsk(2, 1, 5), evVoteAsk(3, 1, 6)
	for _, keeps := range [][]int{{0, 5}, {5, 0}, {9, 3, 11}, {11, 10}, {7, -1}, {-1, 7}} {
		var events []impl.ServerEvent
		for _, keep := range keeps {
			events = append(events, evTear(keep))
		}
		out, view := lastOut(t, su, 1, nil, append(events, ask)...)
		if out.Code != 4 || len(view.Disk.Data) != max(0, keeps[len(keeps)-1]) {
			t.Errorf("%v: %s, %s", keeps, told(out), told(view))
		}
	}
	for _, keep := range []int{-1, 0, 5, 99} {
		for what, events := range map[string][]impl.ServerEvent{
			"crashed and started": {evTear(keep), evCrash, evStart, ask},
			"set while down":      {evCrash, evTear(keep), evStart, ask},
			"torn and started":    {evTear(keep), ask, evStart, second},
			"torn, set, started":  {evTear(keep), ask, evTear(keep), evStart, second},
		} {
			out, view := lastOut(t, su, 1, nil, events...)
			if out.Code != 0 || len(out.Sends) != 1 || view.Up != 1 || view.Term < 5 || view.Vote == 0 {
				t.Errorf("%s, keep %d: %s, %s", what, keep, told(out), told(view))
			}
		}
	}
	out, _ := lastOut(t, su, 1, nil, evTear(0), ask, evStart, evTear(4), second)
	wantOut(t, "set anew", out, impl.ServerOut{Code: 4})
}

// It tears at a write alone: what needs none leaves it up and set to tear.
func TestTearWaitsForAWrite(t *testing.T) {
	su := setupOf(3, 4, 1000)
	lead := append(leadsWith(su, putOf(1, 1, "a", "1")), evYes(2, 1, 2, 3), evTear(3))
	quiet := []impl.ServerEvent{evTick, evTick, evYes(3, 1, 2, 3), evCall(getOf(1, 1, "a")), evBytes(2, nil), evStart, evVoteAsk(3, 1, 9), evTick}
	trace := run(t, su, 1, nil, append(lead, quiet...)...)
	for i, ev := range quiet {
		if out := trace.Outs[len(lead)+i]; out.Code > 2 || out.From != 3 || out.To != 3 {
			t.Errorf("%s: %s", told(ev), told(out))
		}
	}
	if trace.View.Up != 1 || trace.View.Role != impl.RoleLeader {
		t.Errorf("%s", told(trace.View))
	}
	out, view := lastOut(t, su, 1, nil, slices.Concat(lead, quiet, []impl.ServerEvent{evCall(somePut)})...)
	wantOut(t, "a write at last", out, impl.ServerOut{Code: 4})
	if len(view.Disk.Data) != view.Disk.Synced+3 || view.Up != 0 {
		t.Errorf("%s", told(view))
	}
}

// A full disk comes ahead of the tear: the step is undone, and the server stays set to tear.
func TestTearOnAFullDisk(t *testing.T) {
	su := setupOf(3, 4, 11)
	great := evAppend(2, 1, 3, 0, 0, 0, blanks(1)...)
	trace := run(t, su, 1, nil, evTear(2), great, great, evVoteAsk(2, 1, 5))
	for i, code := range []int{0, 3, 3, 4} {
		wantOut(t, "full, then torn", trace.Outs[i], impl.ServerOut{Code: code})
	}
	if len(trace.View.Disk.Data) != 2 || trace.View.Up != 0 {
		t.Errorf("%s", told(trace.View))
	}
}

// Torn writes one behind another: each start cuts off what does not read, and goes on behind it.
func TestTornAgainAndAgain(t *testing.T) {
	su := setupOf(3, 4, 60)
	var events []impl.ServerEvent
	for i := range 40 {
		events = append(events, evTear(i%11), evVoteAsk(2, 1, 5), evStart)
	}
	trace := run(t, su, 1, nil, append(events, evVoteAsk(3, 1, 7))...)
	if trace.View.Term != 7 || trace.View.Vote != 3 || !slices.Equal(trace.View.Disk.Data, journal(hard(7, 3))) || trace.Drawn != 1+40+40+1 {
		t.Errorf("%d drawn, %s", trace.Drawn, told(trace.View))
	}
}
