package tests

import (
	"math/rand"
	"testing"

	"loop.example/s01586/impl"
)

// Promise 18: one open command at most, which keeps its number until its reply; a reply of another number, or a second one, changes nothing.

// open is what the outside knows of a client: the command asked and not yet replied, and how many were asked.
type open struct {
	cmd   impl.Cmd
	asked int
	busy  bool
}

func (o *open) check(t *testing.T, was impl.Client, ev impl.ClientEvent, a impl.ClientAnswer) {
	t.Helper()
	fail := func(what string) {
		t.Helper()
		t.Fatalf("%s: %+v by %+v became %+v", what, was, ev, a)
	}
	c := a.Client
	switch {
	case ev.Kind == impl.AskEvent && a.Code == 0:
		if o.busy {
			fail("a second open command")
		}
		o.asked++
		o.busy, o.cmd = true, c.Cmd
		want := ev.Cmd
		want.Client, want.Seq = c.Id, o.asked
		if o.cmd != want {
			fail("another command than the one asked")
		}
	case a.Done == 1:
		if !o.busy || ev.Kind != impl.ReplyEvent || ev.Reply.Seq != o.asked || ev.Reply.Client != c.Id || ev.Reply.Status != impl.StatusDone {
			fail("done by no reply of its own")
		}
		o.busy, o.cmd = false, impl.Cmd{}
	}
	if c.Seq != o.asked || c.Cmd != o.cmd || (c.Busy == 1) != o.busy {
		fail("the open command is another")
	}
	if a.Code != 0 && (c != was || a.Send != 0 || a.Done != 0) {
		fail("a refused event changed something")
	}
	if a.Send != 0 && (!o.busy || a.Send != c.Target || a.Send < 1 || a.Send > c.Servers) {
		fail("sent without an open command, or not to the target")
	}
}

// idleReplies: replies that no client with this number open, or none, may take: of other numbers, and the last one's again.
func idleReplies(c impl.Client) []impl.Reply {
	var out []impl.Reply
	for _, seq := range []int{1, c.Seq - 2, c.Seq - 1, c.Seq, c.Seq + 1, c.Seq + 2, impl.MaxSeq} {
		if seq < 1 || seq > impl.MaxSeq || c.Busy == 1 && seq == c.Seq {
			continue
		}
		out = append(out, doneReply(c.Id, seq), redirectTo(c.Id, seq, 0), redirectTo(c.Id, seq, 1+c.Target%c.Servers))
	}
	return out
}

func TestP18DrawnRuns(t *testing.T) {
	random := rand.New(rand.NewSource(67))
	done, sent := 0, 0
	for range 40 {
		c := drawClient(random)
		o := open{asked: c.Seq}
		for range 3000 {
			ev := drawClientEvent(random, c)
			a := impl.StepClient(c, ev)
			o.check(t, c, ev, a)
			c = a.Client
			done += a.Done
			sent += ruleIf(a.Send != 0, 1)
			for _, r := range idleReplies(c) {
				if got := impl.StepClient(c, replyOf(r)); got != (impl.ClientAnswer{Code: 3, Client: c}) {
					t.Fatalf("%+v took %+v: %+v", c, r, got)
				}
			}
		}
	}
	if done < 5000 || sent < 20000 {
		t.Errorf("%d done, %d sent", done, sent)
	}
}

// One command from its ask to its reply: however often it is poked and redirected, it is the same command; then the same reply comes again.
func TestP18OneCommand(t *testing.T) {
	for _, retry := range []int{1, 2, 7} {
		c := impl.Client{Id: 8, Servers: 7, Retry: retry, Target: 7}
		for seq := 1; seq <= 50; seq++ {
			want := putOf(8, seq, "k", letters(seq%5))
			c = impl.StepClient(c, askOf(want)).Client
			for i := range 100 {
				ev := poke
				if i%3 == 0 {
					ev = replyOf(redirectTo(8, seq, i%8))
				}
				c = impl.StepClient(c, ev).Client
				wantStays(t, "one at a time", c, askOf(getOf(0, 0, "other")), 1)
				if c.Cmd != want || c.Busy != 1 || c.Seq != seq {
					t.Fatalf("command %d: %+v", seq, c)
				}
			}
			a := impl.StepClient(c, replyOf(doneReply(8, seq)))
			if a.Done != 1 || a.Client.Busy != 0 || a.Client.Seq != seq {
				t.Fatalf("command %d: %+v", seq, a)
			}
			c = a.Client
			wantStays(t, "the same reply again", c, replyOf(doneReply(8, seq)), 3)
			wantStays(t, "a poke of an idle one", c, poke, 3)
		}
	}
}
