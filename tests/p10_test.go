package tests

import (
	"math/rand"
	"slices"
	"testing"

	"loop.example/s01586/impl"
)

// Promise 10: a leader's tick sends entries to exactly those others to which none were sent in the last Beat ticks.

// diary holds the tick at which entries last went to each server, as told by what was sent.
type diary map[int]int

func (d diary) write(n impl.Node, out []impl.Msg) {
	for _, m := range out {
		if m.Kind == impl.KindAppend {
			d[m.To] = n.Now
		}
	}
}

// due: to whom the next tick has to send.
func (d diary) due(n impl.Node) []int {
	var out []int
	for _, j := range othersOf(n) {
		if n.Now+1-d[j] >= n.Beat {
			out = append(out, j)
		}
	}
	return out
}

func receivers(out []impl.Msg) []int {
	var ids []int
	for _, m := range out {
		ids = append(ids, m.To)
	}
	return ids
}

func checkTick(t *testing.T, d diary, n impl.Node) impl.Node {
	t.Helper()
	a := impl.StepNode(n, tickOf(5))
	due := d.due(n)
	if a.Code != 0 || a.Node.Role != impl.RoleLeader || !slices.Equal(receivers(a.Out), due) {
		t.Fatalf("sent to %v, not to %v: %s", receivers(a.Out), due, told(n))
	}
	for _, m := range a.Out {
		n.Now = a.Node.Now
		if !sameMsg(m, entriesTo(n, m.To)) {
			t.Fatalf("sent %s", told(m))
		}
	}
	d.write(a.Node, a.Out)
	return a.Node
}

// freshLeader has just won its election: it has sent entries to all.
func freshLeader(t *testing.T, size, elect, beat int) (impl.Node, diary) {
	t.Helper()
	n := nodeIn(impl.RoleCandidate, size)
	n.Elect, n.Beat, n.Deadline = elect, beat, 0
	d := diary{}
	for _, j := range othersOf(n)[:size/2] {
		a := impl.StepNode(n, msgOf(impl.Msg{Kind: impl.KindVoteReply, From: j, To: 2, Term: 5, Ok: 1}))
		n = a.Node
		d.write(n, a.Out)
	}
	if n.Role != impl.RoleLeader || len(d) != size-1 {
		t.Fatalf("no leader: %s", told(n))
	}
	return n, d
}

// hearAll marks all others as seen just now, so that the leader stays in office without an answer that would bring it to send.
func hearAll(n impl.Node) impl.Node {
	n = cloneNode(n)
	for _, j := range othersOf(n) {
		n.Seen[j-1] = n.Now
	}
	return n
}

func TestP10IdleLeader(t *testing.T) {
	for _, size := range sizes {
		for _, beat := range []int{1, 2, 3, 7, 10} {
			n, d := freshLeader(t, size, 10, beat)
			for range 5*beat + 3 {
				n = hearAll(checkTick(t, d, n))
			}
		}
	}
}

// Answers and proposals in between bring entries of their own: those peers get no heartbeat for a while.
func TestP10BusyLeader(t *testing.T) {
	random := rand.New(rand.NewSource(41))
	skipped, sent := 0, 0
	for range 400 {
		size, beat := sizes[random.Intn(3)], 1+random.Intn(9)
		n, d := freshLeader(t, size, 10, beat)
		for range 4*beat + 2 {
			for range random.Intn(4) {
				in := proposalOf(somePut)
				if random.Intn(4) > 0 {
					in = msgOf(drawMsg(random, n))
					in.Msg.Term = min(in.Msg.Term, n.Term)
				}
				a := impl.StepNode(n, in)
				n = a.Node
				d.write(n, a.Out)
			}
			due := len(d.due(n))
			sent += due
			skipped += size - 1 - due
			n = hearAll(checkTick(t, d, n))
		}
	}
	if skipped < 1000 || sent < 1000 {
		t.Errorf("%d heartbeats sent, %d left out", sent, skipped)
	}
}

func TestP10DrawnLeaders(t *testing.T) {
	random := rand.New(rand.NewSource(42))
	for range 20000 {
		n := drawNode(random)
		if n.Role != impl.RoleLeader || n.Now == impl.MaxNow {
			continue
		}
		d := diary{}
		for _, j := range othersOf(n) {
			d[j] = n.Sent[j-1]
		}
		if a := impl.StepNode(n, tickOf(1)); a.Node.Role != impl.RoleLeader {
			if len(a.Out) != 0 {
				t.Fatalf("stepping down it sent %s", told(a.Out))
			}
			continue
		}
		checkTick(t, d, n)
	}
}

// At Beat - 1 ticks behind the last sending none is due, at Beat one is.
func TestP10TheVeryTick(t *testing.T) {
	for _, beat := range []int{1, 2, 10, 1000} {
		n := nodeIn(impl.RoleLeader, 5)
		n.Elect, n.Beat, n.Now, n.Deadline = 1000, beat, 2000, 0
		n.Seen = []int{2000, 0, 2000, 2000, 2000}
		n.Sent = []int{2001 - beat, 0, 2000, max(0, 2000-beat), min(2000, 2002-beat)}
		want := []int{1, 4}
		if beat == 1 {
			want = []int{1, 3, 4, 5}
		}
		a := impl.StepNode(n, tickOf(0))
		if got := receivers(a.Out); !slices.Equal(got, want) {
			t.Errorf("beat %d: sent to %v, not to %v", beat, got, want)
		}
		for i, j := range othersOf(n) {
			stays := a.Node.Sent[j-1] == n.Sent[j-1]
			if slices.Contains(want, j) == stays || !stays && a.Node.Sent[j-1] != 2001 {
				t.Errorf("beat %d: Sent of peer %d is %d", beat, i, a.Node.Sent[j-1])
			}
		}
	}
}
