package tests

import (
	"math/rand"
	"testing"

	"loop.example/s01586/impl"
)

// busyClient waits for the reply to its command 7; idleClient has had it.
func busyClient() impl.Client {
	return impl.Client{Id: 2, Servers: 5, Retry: 4, Seq: 7, Busy: 1, Target: 3, Wait: 2, Cmd: casOf(2, 7, "k", "a", "b")}
}

func idleClient() impl.Client {
	return impl.Client{Id: 2, Servers: 5, Retry: 4, Seq: 7, Target: 3}
}

func askOf(c impl.Cmd) impl.ClientEvent {
	return impl.ClientEvent{Kind: impl.AskEvent, Cmd: c}
}

func replyOf(r impl.Reply) impl.ClientEvent {
	return impl.ClientEvent{Kind: impl.ReplyEvent, Reply: r}
}

var poke = impl.ClientEvent{Kind: impl.PokeEvent}

func doneReply(client, seq int) impl.Reply {
	return impl.Reply{Client: client, Seq: seq, Status: impl.StatusDone, Code: impl.ResDone, Val: "v"}
}

func redirectTo(client, seq, leader int) impl.Reply {
	return impl.Reply{Client: client, Seq: seq, Status: impl.StatusRedirect, Leader: leader}
}

// clientEvents: one of each kind and some of none.
func clientEvents() []impl.ClientEvent {
	return []impl.ClientEvent{askOf(getOf(0, 0, "k")), askOf(impl.Cmd{}), poke, replyOf(doneReply(2, 7)), replyOf(redirectTo(2, 7, 1)), replyOf(impl.Reply{}), {}, {Kind: 4}}
}

func wantClientFit(t *testing.T, what string, c impl.Client, fits bool) {
	t.Helper()
	for _, ev := range clientEvents() {
		got := impl.StepClient(c, ev)
		if (got.Code != 9) != fits {
			t.Errorf("%s: code %d of %+v by %+v", what, got.Code, c, ev)
		}
		if !fits && got != (impl.ClientAnswer{Code: 9}) {
			t.Errorf("%s: not all else is zero: %+v", what, got)
		}
	}
}

func wantClient(t *testing.T, what string, c impl.Client, ev impl.ClientEvent, want impl.ClientAnswer) {
	t.Helper()
	if got := impl.StepClient(c, ev); got != want {
		t.Errorf("%s: %+v, not %+v", what, got, want)
	}
}

// wantStays checks the code, and that nothing else happened.
func wantStays(t *testing.T, what string, c impl.Client, ev impl.ClientEvent, code int) {
	t.Helper()
	wantClient(t, what, c, ev, impl.ClientAnswer{Code: code, Client: c})
}

// Each number of a client at its edges, the rest being well-formed beside it.
func TestClientNumbers(t *testing.T) {
	wantClientFit(t, "busy", busyClient(), true)
	wantClientFit(t, "idle", idleClient(), true)
	wantClientFit(t, "the zero client", impl.Client{}, false)
	for _, n := range append([]int{3, 4, 5, 9, 1000, 1001}, edges...) {
		c := busyClient()
		c.Id, c.Cmd.Client = n, n
		wantClientFit(t, "id", c, n >= 1 && n <= 8)
		c = idleClient()
		c.Id = n
		wantClientFit(t, "id", c, n >= 1 && n <= 8)
		c = busyClient()
		c.Servers, c.Target = n, 1
		wantClientFit(t, "servers", c, n == 3 || n == 5 || n == 7)
		c = busyClient()
		c.Retry, c.Wait = n, 0
		wantClientFit(t, "retry", c, n >= 1 && n <= 1000)
		c = busyClient()
		c.Retry = n
		wantClientFit(t, "retry beside a wait of 2", c, n >= 3 && n <= 1000)
		c = busyClient()
		c.Seq, c.Cmd.Seq = n, n
		wantClientFit(t, "the number of a busy one", c, n >= 1 && n <= impl.MaxSeq)
		c = idleClient()
		c.Seq = n
		wantClientFit(t, "the number of an idle one", c, n >= 0 && n <= impl.MaxSeq)
		c = busyClient()
		c.Busy = n
		wantClientFit(t, "busy", c, n == 1)
		c = idleClient()
		c.Busy = n
		wantClientFit(t, "idle", c, n == 0)
		c = busyClient()
		c.Target = n
		wantClientFit(t, "target", c, n >= 1 && n <= 5)
		c = busyClient()
		c.Wait = n
		wantClientFit(t, "the wait of a busy one", c, n >= 0 && n <= 3)
		c = idleClient()
		c.Wait = n
		wantClientFit(t, "the wait of an idle one", c, n == 0)
	}
}

// A busy client has a well-formed command of its own and of its number, an idle one none.
func TestClientCommands(t *testing.T) {
	with := func(c impl.Client, cmd impl.Cmd) impl.Client {
		c.Cmd = cmd
		return c
	}
	for _, cmd := range []impl.Cmd{getOf(2, 7, "k"), putOf(2, 7, letters(64), letters(64)), putOf(2, 7, "k", ""), delOf(2, 7, "\x00"), casOf(2, 7, "k", "", "")} {
		wantClientFit(t, "busy with it", with(busyClient(), cmd), true)
		wantClientFit(t, "idle with it", with(idleClient(), cmd), false)
	}
	for _, cmd := range []impl.Cmd{{}, getOf(1, 7, "k"), getOf(3, 7, "k"), getOf(2, 6, "k"), getOf(2, 8, "k"), getOf(0, 7, "k"), getOf(2, 0, "k"), getOf(2, 7, ""), getOf(2, 7, letters(65)),
		{Client: 2, Seq: 7, Op: 5, Key: "k"}, {Client: 2, Seq: 7, Op: -1, Key: "k"}, {Client: 2, Seq: 7}, {Client: 2, Seq: 7, Op: impl.OpGet, Key: "k", Val: "v"}, {Client: 2, Seq: 7, Op: impl.OpPut, Key: "k", Old: "v"}, putOf(2, 7, "k", letters(65)), casOf(2, 7, "k", letters(65), "")} {
		wantClientFit(t, "busy with another's or an ill-formed one", with(busyClient(), cmd), false)
	}
	for _, cmd := range []impl.Cmd{{Client: 2}, {Seq: 7}, {Op: 1}, {Key: "k"}, {Val: "v"}, {Old: "v"}} {
		wantClientFit(t, "idle with some of a command", with(idleClient(), cmd), false)
	}
	fresh := impl.Client{Id: 1, Servers: 3, Retry: 1, Target: 1}
	wantClientFit(t, "before its first command", fresh, true)
	fresh.Busy = 1
	wantClientFit(t, "busy without a command", fresh, false)
}

func TestClientUnknownEvents(t *testing.T) {
	for _, kind := range append([]int{3, 4}, edges...) {
		if kind >= 1 && kind <= 3 {
			continue
		}
		for _, c := range []impl.Client{busyClient(), idleClient()} {
			wantStays(t, "kind", c, impl.ClientEvent{Kind: kind, Cmd: getOf(0, 0, "k"), Reply: doneReply(2, 7)}, 8)
		}
	}
}

func TestClientAsks(t *testing.T) {
	for _, cmd := range []impl.Cmd{getOf(0, 0, "k"), putOf(0, 0, "k", ""), delOf(9, -3, "k"), casOf(5, 99, letters(64), letters(64), letters(64))} {
		for _, seq := range []int{0, 1, 7, impl.MaxSeq - 1} {
			for target := 1; target <= 5; target++ {
				c := idleClient()
				c.Seq, c.Target = seq, target
				want := c
				want.Seq, want.Busy, want.Cmd = seq+1, 1, cmd
				want.Cmd.Client, want.Cmd.Seq = 2, seq+1
				wantClient(t, "an ask", c, askOf(cmd), impl.ClientAnswer{Send: target, Client: want})
			}
		}
	}
	last := idleClient()
	last.Seq = impl.MaxSeq
	wantStays(t, "no number left", last, askOf(getOf(0, 0, "k")), 1)
	wantStays(t, "no number left, and an ill-formed command", last, askOf(impl.Cmd{}), 1)
	wantStays(t, "busy", busyClient(), askOf(getOf(0, 0, "k")), 1)
	wantStays(t, "busy, with its own command", busyClient(), askOf(busyClient().Cmd), 1)
	wantStays(t, "busy, and an ill-formed command", busyClient(), askOf(impl.Cmd{Op: 9}), 1)
	for _, cmd := range []impl.Cmd{{}, {Client: 2, Seq: 8}, {Op: 5, Key: "k"}, {Op: -1, Key: "k"}, {Op: impl.OpGet}, {Key: "k"}, getOf(0, 0, letters(65)), {Op: impl.OpGet, Key: "k", Val: "v"}, {Op: impl.OpDel, Key: "k", Old: "v"}, putOf(0, 0, "k", letters(65)), casOf(0, 0, "k", letters(65), "")} {
		wantStays(t, "an ill-formed command", idleClient(), askOf(cmd), 2)
	}
	// What stands beside the command in the event is not looked at.
	ev := askOf(getOf(0, 0, "k"))
	ev.Reply = impl.Reply{Client: -1}
	if got := impl.StepClient(idleClient(), ev); got != impl.StepClient(idleClient(), askOf(ev.Cmd)) || got.Code != 0 {
		t.Errorf("%+v", got)
	}
}

func TestClientPokes(t *testing.T) {
	wantStays(t, "idle", idleClient(), poke, 3)
	for _, servers := range sizes {
		for target := 1; target <= servers; target++ {
			for _, retry := range []int{1, 2, 4, 1000} {
				for _, wait := range []int{0, 1, 2, retry - 2, retry - 1} {
					c := busyClient()
					c.Servers, c.Target, c.Retry, c.Wait = servers, target, retry, wait
					if wait < 0 || wait >= retry {
						continue
					}
					want := impl.ClientAnswer{Client: c}
					want.Client.Wait = wait + 1
					if wait+1 == retry {
						want.Client.Wait, want.Client.Target = 0, target+1
						if target == servers {
							want.Client.Target = 1
						}
						want.Send = want.Client.Target
					}
					wantClient(t, "a poke", c, poke, want)
				}
			}
		}
	}
	with := impl.ClientEvent{Kind: impl.PokeEvent, Cmd: impl.Cmd{Op: 9}, Reply: doneReply(2, 7)}
	wantClient(t, "a poke with more in it", busyClient(), with, impl.StepClient(busyClient(), poke))
}

func TestClientRepliesRefused(t *testing.T) {
	for _, r := range []impl.Reply{{}, {Client: 2, Seq: 7}, {Client: 2, Seq: 7, Status: 3}, {Client: 2, Seq: 7, Status: impl.StatusDone}, {Client: 2, Seq: 7, Status: impl.StatusDone, Code: 5}, {Client: 2, Seq: 7, Status: impl.StatusDone, Code: 1, Leader: 1},
		{Client: 2, Seq: 7, Status: impl.StatusDone, Code: 1, Val: letters(65)}, {Client: 2, Seq: 7, Status: impl.StatusRedirect, Code: 1}, {Client: 2, Seq: 7, Status: impl.StatusRedirect, Val: "v"}, redirectTo(2, 7, -1), redirectTo(2, 7, 8), doneReply(0, 7), doneReply(9, 7), doneReply(2, 0), doneReply(2, impl.MaxSeq+1)} {
		wantStays(t, "ill-formed, busy", busyClient(), replyOf(r), 2)
		wantStays(t, "ill-formed, idle", idleClient(), replyOf(r), 2)
	}
	for _, r := range []impl.Reply{doneReply(1, 7), doneReply(3, 7), doneReply(2, 6), doneReply(2, 8), doneReply(2, 1), doneReply(2, impl.MaxSeq), redirectTo(1, 7, 4), redirectTo(2, 6, 4), redirectTo(2, 8, 4)} {
		wantStays(t, "another's or of another number", busyClient(), replyOf(r), 3)
	}
	for _, r := range []impl.Reply{doneReply(2, 7), redirectTo(2, 7, 4), redirectTo(2, 7, 0), doneReply(1, 7), doneReply(2, 8)} {
		wantStays(t, "idle", idleClient(), replyOf(r), 3)
	}
}

func TestClientReplies(t *testing.T) {
	for _, r := range replySamples() {
		r.Client, r.Seq = 2, 7
		for _, servers := range sizes {
			for target := 1; target <= servers; target++ {
				c := busyClient()
				c.Servers, c.Target = servers, target
				want := impl.ClientAnswer{Client: c}
				switch {
				case r.Status == impl.StatusDone:
					want.Done = 1
					want.Client = impl.Client{Id: 2, Servers: servers, Retry: 4, Seq: 7, Target: target}
				case r.Leader >= 1 && r.Leader <= servers && r.Leader != target:
					want.Client.Target, want.Client.Wait, want.Send = r.Leader, 0, r.Leader
				default:
					want.Client.Target = target + 1
					if target == servers {
						want.Client.Target = 1
					}
				}
				wantClient(t, "a reply", c, replyOf(r), want)
			}
		}
	}
}

// The redirections of the document, one by one: to none, to the target itself, to another, beyond the servers.
func TestClientRedirections(t *testing.T) {
	for _, x := range []struct{ target, leader, next, wait, send int }{
		{3, 0, 4, 2, 0}, {5, 0, 1, 2, 0}, {3, 3, 4, 2, 0}, {5, 5, 1, 2, 0}, {3, 5, 5, 0, 5}, {3, 1, 1, 0, 1}, {5, 1, 1, 0, 1}, {3, 4, 4, 0, 4}, {3, 6, 4, 2, 0}, {3, 7, 4, 2, 0}, {5, 7, 1, 2, 0},
	} {
		c := busyClient()
		c.Target = x.target
		want := c
		want.Target, want.Wait = x.next, x.wait
		wantClient(t, "a redirection", c, replyOf(redirectTo(2, 7, x.leader)), impl.ClientAnswer{Send: x.send, Client: want})
	}
}

// modelClient is the document's 6.4 told once more, for a well-formed client and an event of a known kind.
func modelClient(c impl.Client, ev impl.ClientEvent) impl.ClientAnswer {
	next := map[bool]int{false: c.Target + 1, true: 1}[c.Target == c.Servers]
	a := impl.ClientAnswer{Client: c}
	switch ev.Kind {
	case impl.AskEvent:
		cmd := ev.Cmd
		cmd.Client, cmd.Seq = c.Id, c.Seq+1
		if c.Busy == 1 || c.Seq == impl.MaxSeq {
			a.Code = 1
		} else if len(impl.EncodeCall(cmd)) == 0 {
			a.Code = 2
		} else {
			a.Client.Seq, a.Client.Busy, a.Client.Wait, a.Client.Cmd, a.Send = c.Seq+1, 1, 0, cmd, c.Target
		}
	case impl.PokeEvent:
		if c.Busy == 0 {
			a.Code = 3
		} else if a.Client.Wait++; a.Client.Wait == c.Retry {
			a.Client.Wait, a.Client.Target, a.Send = 0, next, next
		}
	case impl.ReplyEvent:
		r := ev.Reply
		switch {
		case len(impl.EncodeReply(r)) == 0:
			a.Code = 2
		case c.Busy == 0 || r.Client != c.Id || r.Seq != c.Seq:
			a.Code = 3
		case r.Status == impl.StatusDone:
			a.Client.Busy, a.Client.Wait, a.Client.Cmd, a.Done = 0, 0, impl.Cmd{}, 1
		case r.Leader != c.Target && r.Leader > 0 && r.Leader <= c.Servers:
			a.Client.Target, a.Client.Wait, a.Send = r.Leader, 0, r.Leader
		default:
			a.Client.Target = next
		}
	}
	return a
}

func drawClient(random *rand.Rand) impl.Client {
	c := impl.Client{Id: 1 + random.Intn(8), Servers: sizes[random.Intn(3)], Retry: 1 + random.Intn(5)}
	c.Target = 1 + random.Intn(c.Servers)
	if oneIn(random, 10) {
		c.Seq = impl.MaxSeq - random.Intn(4)
	}
	return c
}

func drawClientEvent(random *rand.Rand, c impl.Client) impl.ClientEvent {
	ev := impl.ClientEvent{Kind: 1 + random.Intn(3), Cmd: drawCmd(random, 8, 9), Reply: doneReply(c.Id, max(1, c.Seq))}
	if random.Intn(3) > 0 {
		ev.Reply = redirectTo(c.Id, max(1, c.Seq), random.Intn(9))
	}
	switch random.Intn(12) {
	case 0:
		ev.Reply.Client = random.Intn(10)
	case 1:
		ev.Reply.Seq = min(impl.MaxSeq, max(0, c.Seq+random.Intn(5)-2))
	case 2:
		ev.Reply.Status, ev.Reply.Code = random.Intn(4), random.Intn(6)
	}
	return ev
}

func TestClientDrawn(t *testing.T) {
	random := rand.New(rand.NewSource(66))
	seen := map[[2]int]int{}
	for range 2000 {
		c := drawClient(random)
		for range 60 {
			ev := drawClientEvent(random, c)
			got, want := impl.StepClient(c, ev), modelClient(c, ev)
			if got != want {
				t.Fatalf("%+v, not %+v, of %+v by %+v", got, want, c, ev)
			}
			seen[[2]int{ev.Kind, got.Code}]++
			c = got.Client
		}
	}
	for _, what := range [][2]int{{1, 0}, {1, 1}, {1, 2}, {2, 0}, {2, 3}, {3, 0}, {3, 2}, {3, 3}} {
		if seen[what] < 500 {
			t.Errorf("kind and code %v only %d times", what, seen[what])
		}
	}
}
