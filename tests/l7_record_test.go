package tests

import (
	"fmt"
	"slices"
	"testing"

	"loop.example/s01586/impl"
)

// What a report keeps of a run: events, facts, order, leads, servers and clients.

// toldEvents: a word for each event.
func toldEvents(events []impl.Event) []string {
	var out []string
	for _, ev := range events {
		word := fmt.Sprintf("ask %d.%d", ev.Cmd.Client, ev.Cmd.Seq)
		if ev.Kind == impl.EventReply {
			word = fmt.Sprintf("reply %d.%d=%d%s", ev.Cmd.Client, ev.Cmd.Seq, ev.Code, ev.Val)
		}
		out = append(out, word)
	}
	return out
}

func wantEvents(t *testing.T, what string, r impl.Report, want ...string) {
	t.Helper()
	if got := toldEvents(r.Events); !slices.Equal(got, want) {
		t.Errorf("%s: %q, not %q", what, got, want)
	}
}

// toldFacts: a word for each fact: the place, the term and the server, and of the entry the term, the client and the number.
func toldFacts(facts []impl.Fact) []string {
	var out []string
	for _, f := range facts {
		out = append(out, fmt.Sprintf("%d@%d by %d: %d %d.%d", f.Index, f.At, f.Server, f.Entry.Term, f.Entry.Cmd.Client, f.Entry.Cmd.Seq))
	}
	return out
}

func wantFacts(t *testing.T, what string, r impl.Report, want ...string) {
	t.Helper()
	if got := toldFacts(r.Facts); !slices.Equal(got, want) {
		t.Errorf("%s: %q, not %q", what, got, want)
	}
}

// toldLeads: a word for each lead: its term, the server and the terms of its log.
func toldLeads(leads []impl.Lead) []string {
	var out []string
	for _, l := range leads {
		word := fmt.Sprintf("%d by %d:", l.Term, l.Server)
		for _, e := range l.Log {
			word += fmt.Sprintf(" %d", e.Term)
		}
		out = append(out, word)
	}
	return out
}

func wantLeads(t *testing.T, what string, r impl.Report, want ...string) {
	t.Helper()
	if got := toldLeads(r.Leads); !slices.Equal(got, want) {
		t.Errorf("%s: %q, not %q", what, got, want)
	}
}

func TestEventsInOrder(t *testing.T) {
	su := quick(3)
	r := play(t, scriptOf(su, quickDraws, stPut(1, "a", "b"), stGet(1, "x"), stDrop(0)))
	wantEvents(t, "asked, and asked while busy", r, "ask 1.1")
	if r.Events[0] != (impl.Event{Kind: impl.EventAsk, Cmd: putOf(1, 1, "a", "b")}) {
		t.Errorf("%+v", r.Events[0])
	}
	r = play(t, scriptOf(su, quickDraws, led(stPut(1, "a", "b"), stGet(3, "a"), stFlow(100))...))
	wantEvents(t, "one of them redirected", r, "ask 1.1", "ask 3.1", "reply 1.1=1", "reply 3.1=1b")
	r = play(t, scriptOf(su, quickDraws, led(stGet(3, "a"), stPut(1, "a", "b"), stFlow(100))...))
	wantEvents(t, "the redirected one comes later", r, "ask 3.1", "ask 1.1", "reply 1.1=1", "reply 3.1=1b")
	r = play(t, scriptOf(su, quickDraws, led(
		stPut(1, "a", "b"), stFlow(100), stAsk(1, casOf(0, 0, "a", "x", "y")), stFlow(100), stAsk(1, casOf(0, 0, "a", "b", "y")), stFlow(100),
		stAsk(1, delOf(0, 0, "a")), stFlow(100), stAsk(1, delOf(0, 0, "a")), stFlow(100), stGet(1, "a"))...))
	wantEvents(t, "each result", r, "ask 1.1", "reply 1.1=1", "ask 1.2", "reply 1.2=3b", "ask 1.3", "reply 1.3=1", "ask 1.4", "reply 1.4=1y", "ask 1.5", "reply 1.5=2", "ask 1.6")
	for _, ev := range r.Events[1:] {
		if ev.Kind == impl.EventAsk && (ev.Code != 0 || ev.Val != "") {
			t.Errorf("%+v", ev)
		}
	}
	if r.Events[3].Cmd != casOf(1, 2, "a", "x", "y") {
		t.Errorf("the reply's command: %+v", r.Events[3])
	}
	// the reply is the sixth to come: it comes three times, and counts once
	r = play(t, scriptOf(su, quickDraws, led(stPut(1, "a", "b"), stFlow(4), stRepeat(1), stRepeat(1), stFlow(100))...))
	wantEvents(t, "a reply that comes again", r, "ask 1.1", "reply 1.1=1")
	r = play(t, scriptOf(su, quickDraws, led(stPut(1, "a", "b"), stFlow(4), stDrop(1), stFlow(100))...))
	wantEvents(t, "a reply that is lost", r, "ask 1.1")
	if len(r.Order) != 1 || r.Clients[0].Busy != 1 {
		t.Errorf("a reply that is lost: %s", told(r))
	}
	r = play(t, scriptOf(su, quickDraws, led(stPut(1, "a", "b"), stFlow(4), stDrop(1), stFlow(100), stCalm(5), stCalm(40))...))
	wantEvents(t, "a reply that is lost, and asked for again", r, "ask 1.1", "reply 1.1=1")
}

// More events than a history may have are all in the report: only Linear has that limit.
func TestEventsBeyondMaxEvents(t *testing.T) {
	su := quick(8)
	steps := led()
	for range 260 {
		for c := range 8 {
			steps = append(steps, stGet(c+1, "k"))
		}
		steps = append(steps, stFlow(10000))
	}
	r := impl.RunCluster(scriptOf(su, quickDraws, steps...))
	if r.Code != 0 || len(r.Events) != 2*2080 || len(r.Order) != 2080 {
		t.Fatalf("code %d, %d events, %d commands", r.Code, len(r.Events), len(r.Order))
	}
	if got := impl.Linear(r.Events, r.Order); got != (impl.LinearAnswer{Code: 9}) {
		t.Errorf("%+v", got)
	}
	if got := impl.Linear(r.Events[:4096], r.Order); got != (impl.LinearAnswer{Code: 2, At: 2048}) {
		t.Errorf("%+v", got)
	}
	if got := impl.Linear(r.Events[:4096], r.Order[:2048]); got != (impl.LinearAnswer{}) {
		t.Errorf("%+v", got)
	}
}

// again: all servers crash and start, and server 2 leads in the next term, behind whatever else was on the way.
func again() []impl.Step {
	return []impl.Step{stFlow(1000), stCrash(1), stCrash(2), stCrash(3), stStart(1), stStart(2), stStart(3), stTick(2, 4), stFlow(1000), stTick(2, 2), stFlow(1000)}
}

func TestFactsOnce(t *testing.T) {
	su := quick(2)
	r := play(t, scriptOf(su, quickDraws, led()...))
	wantFacts(t, "led", r, "1@1 by 1: 1 0.0")
	put := []impl.Step{stPut(1, "a", "b"), stFlow(100)}
	r = play(t, scriptOf(su, quickDraws, led(put...)...))
	wantFacts(t, "a put", r, "1@1 by 1: 1 0.0", "2@1 by 1: 1 1.1")
	r = play(t, scriptOf(su, quickDraws, led(append(put, stTick(1, 2), stFlow(100))...)...))
	wantFacts(t, "applied by all", r, "1@1 by 1: 1 0.0", "2@1 by 1: 1 1.1")
	if r.Servers[2].Applied != 2 {
		t.Errorf("not applied by all: %s", told(r.Servers))
	}
	r = play(t, scriptOf(su, quickDraws, led(append(put, again()...)...)...))
	wantFacts(t, "all start anew", r, "1@1 by 1: 1 0.0", "2@1 by 1: 1 1.1", "3@2 by 2: 2 0.0")
	for _, v := range r.Servers {
		if v.Applied != 3 {
			t.Errorf("%s", told(v))
		}
	}
	r = play(t, scriptOf(su, quickDraws, led(slices.Concat(put, again(), again(), again())...)...))
	wantFacts(t, "all start anew three times", r, "1@1 by 1: 1 0.0", "2@1 by 1: 1 1.1", "3@2 by 2: 2 0.0", "4@3 by 2: 3 0.0", "5@4 by 2: 4 0.0")
	// the answers of the others are lost: what was asked in term 1 is applied in term 2
	r = play(t, scriptOf(su, quickDraws, led(slices.Concat([]impl.Step{stPut(1, "a", "b"), stFlow(3), stDrop(0), stDrop(0)}, again())...)...))
	wantFacts(t, "agreed in another term", r, "1@1 by 1: 1 0.0", "2@2 by 2: 1 1.1", "3@2 by 2: 2 0.0")
	if !slices.Equal(r.Order, []impl.Cmd{putOf(1, 1, "a", "b")}) {
		t.Errorf("%s", told(r.Order))
	}
	r = play(t, scriptOf(su, quickDraws, led(append(put, stCrash(1), stCrash(3))...)...))
	wantFacts(t, "those of servers that are down stay", r, "1@1 by 1: 1 0.0", "2@1 by 1: 1 1.1")
}

func TestOrderIsOfFacts(t *testing.T) {
	r := play(t, scriptOf(quick(3), quickDraws, led(slices.Concat([]impl.Step{stPut(1, "a", "b"), stGet(2, "a"), stGet(3, "x"), stFlow(100)}, again(), []impl.Step{stPut(2, "x", "y"), stFlow(100)})...)...))
	var want []impl.Cmd
	for _, f := range r.Facts {
		if f.Entry.Cmd.Op != impl.OpNone {
			want = append(want, f.Entry.Cmd)
		}
	}
	if !slices.Equal(r.Order, want) || len(want) != 4 || len(r.Facts) != 6 {
		t.Errorf("%s of the facts %q", told(r.Order), toldFacts(r.Facts))
	}
}

func TestLeads(t *testing.T) {
	su := quick(2)
	r := play(t, scriptOf(su, quickDraws, led(stPut(1, "a", "b"), stFlow(100), stTick(1, 3), stFlow(100))...))
	wantLeads(t, "a leader that goes on", r, "1 by 1: 1")
	if len(r.Servers[0].Log) != 2 {
		t.Errorf("%s", told(r.Servers[0]))
	}
	r = play(t, scriptOf(su, quickDraws, led(slices.Concat([]impl.Step{stPut(1, "a", "b")}, again(), again())...)...))
	wantLeads(t, "leaders one behind the other", r, "1 by 1: 1", "2 by 2: 1 1 2", "3 by 2: 1 1 2 3")
	if r.Leads[1].Log[1] != (impl.Entry{Term: 1, Cmd: putOf(1, 1, "a", "b")}) {
		t.Errorf("%s", told(r.Leads))
	}
	// server 1 hears of none, steps down, and leads again
	r = play(t, scriptOf(su, quickDraws, led(stWall(1), stTick(1, 4))...))
	wantLeads(t, "one that steps down", r, "1 by 1: 1")
	if r.Servers[0].Role != impl.RoleFollower {
		t.Errorf("%s", told(r.Servers[0]))
	}
	r = play(t, scriptOf(su, quickDraws, led(stWall(1), stTick(1, 4), stOpen(1), stTick(2, 3), stTick(3, 3), stTick(1, 4), stFlow(2), stFlow(100))...))
	wantLeads(t, "one whose peers are loyal still", r, "1 by 1: 1")
	r = play(t, scriptOf(su, quickDraws, led(stWall(1), stTick(1, 4), stOpen(1), stTick(2, 4), stTick(3, 4), stFlow(2), stFlow(100), stTick(1, 4), stFlow(100))...))
	if len(r.Leads) != 2 || r.Leads[1].Term != 2 {
		t.Errorf("another term: %q", toldLeads(r.Leads))
	}
}

// A step that is undone or torn makes no leader.
func TestLeadsThatAreNone(t *testing.T) {
	su := quick(1)
	votes := []impl.Step{stTick(1, 4), stFlow(6)}
	r := play(t, scriptOf(su, quickDraws, append(votes, stTear(1, 5), stFlow(1))...))
	wantLeads(t, "torn", r)
	if r.Servers[0].Up != 0 || r.Servers[0].Term != 1 || len(r.Servers[0].Disk.Data) != 11+5 {
		t.Errorf("torn: %s", told(r.Servers[0]))
	}
	r = play(t, scriptOf(su, quickDraws, append(votes, stTear(1, 17), stFlow(1), stStart(1))...))
	wantLeads(t, "torn with all its bytes", r)
	if r.Servers[0].Up != 1 || len(r.Servers[0].Log) != 1 || r.Servers[0].Role != impl.RoleFollower {
		t.Errorf("torn with all its bytes: %s", told(r.Servers[0]))
	}
	r = play(t, scriptOf(su, quickDraws, append(votes, stTear(1, 17), stCrash(1), stStart(1), stFlow(100))...))
	wantLeads(t, "a candidate that starts anew", r)
	su.Disk = 11 + 16
	r = play(t, scriptOf(su, quickDraws, append(votes, stFlow(100))...))
	wantLeads(t, "undone", r)
	if r.Full != 2 {
		t.Errorf("undone: %d times full", r.Full)
	}
	su.Disk = 11 + 17
	r = play(t, scriptOf(su, quickDraws, append(votes, stFlow(100))...))
	wantLeads(t, "just room enough", r, "1 by 1: 1")
}

// Servers that are up and down, and clients that are busy and not, as they are when the run ends.
func TestServersAndClientsAtTheEnd(t *testing.T) {
	su := quick(3)
	// the last to come: a call that is redirected, a call that the leader takes, the redirection, and entries of which 9 bytes stay
	r := play(t, scriptOf(su, quickDraws, led(stPut(1, "a", "b"), stFlow(100), stCrash(3), stTear(2, 9), stGet(2, "a"), stPoke(2), stPoke(2), stPut(1, "c", "d"), stFlow(4), stPoke(3))...))
	for i, want := range []string{
		"1 1 3 1 1 1 2 2", "2 0 0 1 1 0 0 0", "3 0 0 1 1 0 0 0",
	} {
		v := viewNumbers(r.Servers[i])
		if got := fmt.Sprint(v[:]); got != "["+want+"]" {
			t.Errorf("server %d: %s, not %s", i+1, got, want)
		}
	}
	if len(r.Servers[0].Log) != 3 || len(r.Servers[1].Log) != 2 || len(r.Servers[1].Disk.Data) != 11+17+19+9 || r.Servers[1].Disk.Synced != 11+17+19 || len(r.Servers[2].Log) != 2 {
		t.Errorf("%s", told(r.Servers))
	}
	want := []impl.Client{
		{Id: 1, Servers: 3, Retry: 5, Seq: 2, Busy: 1, Target: 1, Cmd: putOf(1, 2, "c", "d")},
		{Id: 2, Servers: 3, Retry: 5, Seq: 1, Busy: 1, Target: 1, Cmd: getOf(2, 1, "a")},
		{Id: 3, Servers: 3, Retry: 5, Target: 3},
	}
	if !slices.Equal(r.Clients, want) {
		t.Errorf("%+v", r.Clients)
	}
}
