package tests

import (
	"math/rand"
	"slices"
	"testing"

	"loop.example/s01586/impl"
)

// Promise 8: a loyal node is moved by no ask, a pre-ask moves no node, and asking first costs neither term nor vote.

// asksTo: asks of each kind to node n, from all others, with terms and log positions below, at and above its own.
func asksTo(n impl.Node) []impl.Msg {
	var out []impl.Msg
	for _, kind := range []int{impl.KindPreAsk, impl.KindVoteAsk} {
		for _, from := range othersOf(n) {
			for _, term := range []int{1, n.Term - 1, n.Term, n.Term + 1, impl.MaxTerm} {
				for _, index := range []int{0, len(n.Log), impl.MaxLog} {
					m := impl.Msg{Kind: kind, From: from, To: n.Id, Term: term, LogIndex: index, LogTerm: min(index, term)}
					if impl.MsgFault(m) == 0 {
						out = append(out, m)
					}
				}
			}
		}
	}
	return out
}

func TestP8LoyalNodes(t *testing.T) {
	for _, size := range sizes {
		leader := nodeIn(impl.RoleLeader, size)
		// A leader is loyal even if it has heard from nobody for long.
		leader.Seen = numbers(size, 0)
		nodes := []impl.Node{nodeIn(impl.RoleLeader, size), leader}
		for _, heard := range []int{100, 99, 91} {
			n := nodeIn(impl.RoleFollower, size)
			n.Leader, n.Heard = size, heard
			nodes = append(nodes, n)
			n.Vote, n.Deadline = 1, 0
			nodes = append(nodes, n)
		}
		early := nodeIn(impl.RoleFollower, size)
		early.Leader, early.Heard, early.Now, early.Deadline = 1, 0, 9, 9
		nodes = append(nodes, early)
		for _, n := range nodes {
			for _, m := range asksTo(n) {
				wantNothing(t, "a loyal node", n, msgOf(m), 2)
			}
		}
	}
}

// Elect ticks behind the last word of its leader, or without a leader, a node answers.
func TestP8NodesNoLongerLoyal(t *testing.T) {
	for _, size := range sizes {
		for _, c := range []struct{ leader, heard, now int }{{1, 90, 100}, {1, 89, 100}, {0, 100, 100}, {0, 91, 100}, {1, 0, 10}, {1, 0, 100}, {size, 0, impl.MaxNow}} {
			n := nodeIn(impl.RoleFollower, size)
			n.Leader, n.Heard, n.Now, n.Deadline = c.leader, c.heard, c.now, c.now
			for _, m := range asksTo(n) {
				a := impl.StepNode(n, msgOf(m))
				if a.Code != 0 || len(a.Out) != 1 || a.Out[0].To != m.From || a.Out[0].Kind != m.Kind+1 {
					t.Errorf("no answer of %s to %+v: %s", told(n), m, told(a))
				}
			}
		}
	}
}

// A follower is loyal for exactly Elect ticks behind the entries that it heard last.
func TestP8LoyaltyInTicks(t *testing.T) {
	for _, elect := range []int{2, 3, 10, 1000} {
		n := impl.NewNode(2, 5, elect, 1, impl.Stable{}, 0)
		n = impl.StepNode(n, impl.Input{Kind: impl.InMsg, Draw: elect - 1, Msg: appendOf(3, 0, 0, 0)}).Node
		for ticks := range elect + 1 {
			want := 2
			if ticks == elect {
				want = 0
			}
			for _, kind := range []int{impl.KindPreAsk, impl.KindVoteAsk} {
				if a := impl.StepNode(n, msgOf(impl.Msg{Kind: kind, From: 1, To: 2, Term: 9, LogIndex: 9, LogTerm: 9})); a.Code != want {
					t.Fatalf("elect %d, %d ticks: code %d, not %d", elect, ticks, a.Code, want)
				}
			}
			n = impl.StepNode(n, tickOf(elect-1)).Node
		}
	}
}

func TestP8PreAsksMoveNoNode(t *testing.T) {
	random := rand.New(rand.NewSource(21))
	for range 20000 {
		n := drawNode(random)
		m := drawMsg(random, n)
		m.Kind, m.Commit, m.Ok, m.Hint, m.Entries = impl.KindPreAsk, 0, 0, 0, nil
		a := impl.StepNode(n, msgOf(m))
		if !sameNode(a.Node, n) || a.Drew != 0 || len(a.Out) > 1 {
			t.Fatalf("%s by %+v: %s", told(n), m, told(a))
		}
	}
}

func TestP8LoyalDrawnNodes(t *testing.T) {
	random := rand.New(rand.NewSource(22))
	loyal := 0
	for range 20000 {
		n := drawNode(random)
		if n.Role != impl.RoleLeader && (n.Leader == 0 || n.Now-n.Heard >= n.Elect) {
			continue
		}
		for _, m := range asksTo(n)[:8] {
			wantNothing(t, "a loyal node", n, msgOf(m), 2)
			loyal++
		}
	}
	if loyal < 10000 {
		t.Errorf("only %d asks", loyal)
	}
}

// A node that nobody answers asks again and again: its term and vote stay as they were.
func TestP8OwnAskingLeavesTermAndVote(t *testing.T) {
	random := rand.New(rand.NewSource(23))
	for range 2000 {
		n := drawNode(random)
		if n.Role == impl.RoleLeader {
			continue
		}
		term, vote, log, asked := n.Term, n.Vote, n.Log, 0
		for range 5 * n.Elect {
			a := impl.StepNode(n, tickOf(random.Intn(1000)))
			n = a.Node
			asked += len(a.Out)
			if n.Term != term || n.Vote != vote || !slices.Equal(n.Log, log) || n.Role == impl.RoleLeader {
				t.Fatalf("asking moved the node: %s", told(n))
			}
		}
		if asked == 0 && term < impl.MaxTerm && n.Now < impl.MaxNow {
			t.Fatalf("never asked: %s", told(n))
		}
	}
}
