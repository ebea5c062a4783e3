package tests

import (
	"slices"
	"testing"

	"loop.example/s01586/impl"
)

// positions: log positions around that of nodeIn, (5, 4), and whether they are up to date for it.
var positions = []struct {
	index, term int
	fine        bool
}{
	{0, 0, false}, {1, 1, false}, {5, 3, false}, {6, 3, false}, {impl.MaxLog, 3, false}, {4, 4, false}, {5, 4, true}, {6, 4, true}, {impl.MaxLog, 4, true}, {1, 5, true}, {5, 5, true},
}

func reply(kind, to, term, ok int) []impl.Msg {
	return []impl.Msg{{Kind: kind, From: 2, To: to, Term: term, Ok: ok}}
}

func TestPreAsks(t *testing.T) {
	for _, role := range roles[:3] {
		n := nodeIn(role, 5)
		for _, at := range positions {
			for _, term := range []int{5, 6, 7, impl.MaxTerm} {
				m := impl.Msg{Kind: impl.KindPreAsk, From: 4, To: 2, Term: term, LogIndex: at.index, LogTerm: at.term}
				want := reply(impl.KindPreReply, 4, 5, 0)
				if at.fine && term > 5 {
					want = reply(impl.KindPreReply, 4, term, 1)
				}
				wantStep(t, "a pre-ask", n, msgOf(m), impl.StepAnswer{Node: n, Out: want})
			}
		}
		low := impl.Msg{Kind: impl.KindPreAsk, From: 4, To: 2, Term: 4, LogIndex: 9, LogTerm: 4}
		wantStep(t, "a low pre-ask", n, msgOf(low), impl.StepAnswer{Node: n, Out: reply(impl.KindPreReply, 4, 5, 0)})
	}
}

// A node that has neither term nor log grants any pre-ask: there is no term to refuse it with.
func TestPreAsksOfAnEmptyNode(t *testing.T) {
	n := impl.NewNode(2, 3, 10, 3, impl.Stable{}, 0)
	for _, m := range []impl.Msg{{Term: 1}, {Term: 7, LogIndex: 3, LogTerm: 2}, {Term: impl.MaxTerm}} {
		m.Kind, m.From, m.To = impl.KindPreAsk, 3, 2
		wantStep(t, "a pre-ask", n, msgOf(m), impl.StepAnswer{Node: n, Out: reply(impl.KindPreReply, 3, m.Term, 1)})
	}
}

func voted(n impl.Node, term, vote int) impl.Node {
	n.Term, n.Vote, n.Role, n.Leader, n.Granted = term, vote, impl.RoleFollower, 0, nil
	return n
}

func TestVoteAsksOfAHigherTerm(t *testing.T) {
	for _, role := range roles[:3] {
		for _, old := range []int{0, 1, 4} {
			n := nodeIn(role, 5)
			if role != impl.RoleCandidate {
				n.Vote = old
			}
			if role == impl.RoleFollower {
				n.Leader = 1
			}
			for _, at := range positions {
				m := impl.Msg{Kind: impl.KindVoteAsk, From: 4, To: 2, Term: 9, LogIndex: at.index, LogTerm: at.term}
				want := impl.StepAnswer{Node: voted(n, 9, 0), Out: reply(impl.KindVoteReply, 4, 9, 0)}
				if at.fine {
					want = impl.StepAnswer{Drew: 1, Node: voted(n, 9, 4), Out: reply(impl.KindVoteReply, 4, 9, 1)}
					want.Node.Deadline = 117
				}
				wantStep(t, "a vote ask", n, msgOf(m), want)
			}
		}
	}
}

func TestVoteAsksOfTheSameTerm(t *testing.T) {
	for _, role := range roles[:3] {
		for vote := 0; vote <= 5; vote++ {
			n := nodeIn(role, 5)
			n.Vote = vote
			if role == impl.RoleCandidate {
				n.Vote = 2
			}
			if role == impl.RoleFollower {
				n.Leader = 1
			}
			for _, at := range positions {
				m := impl.Msg{Kind: impl.KindVoteAsk, From: 4, To: 2, Term: 5, LogIndex: at.index, LogTerm: at.term}
				want := impl.StepAnswer{Node: n, Out: reply(impl.KindVoteReply, 4, 5, 0)}
				if at.fine && (n.Vote == 0 || n.Vote == 4) {
					want = impl.StepAnswer{Drew: 1, Node: voted(n, 5, 4), Out: reply(impl.KindVoteReply, 4, 5, 1)}
					want.Node.Deadline = 117
				}
				wantStep(t, "a vote ask", n, msgOf(m), want)
			}
		}
	}
}

func TestVoteAsksOfALowerTerm(t *testing.T) {
	for _, role := range roles[:3] {
		n := nodeIn(role, 5)
		for _, term := range []int{1, 4} {
			m := impl.Msg{Kind: impl.KindVoteAsk, From: 4, To: 2, Term: term, LogIndex: 9, LogTerm: term}
			wantStep(t, "a low vote ask", n, msgOf(m), impl.StepAnswer{Node: n, Out: reply(impl.KindVoteReply, 4, 5, 0)})
		}
	}
}

// grants: well-formed lists of those who have granted, for a node of the size.
func grants(size int) [][]int {
	return map[int][][]int{3: {{2}}, 5: {{2}, {1, 2}, {2, 4}}, 7: {{2}, {1, 2}, {2, 7}, {1, 2, 3}, {2, 5, 7}}}[size]
}

func TestPreGrants(t *testing.T) {
	for _, size := range sizes {
		for _, granted := range grants(size) {
			for _, from := range []int{1, 3, size} {
				n := nodeIn(impl.RoleAsking, size)
				n.Granted = granted
				m := impl.Msg{Kind: impl.KindPreReply, From: from, To: 2, Term: 6, Ok: 1}
				if slices.Contains(granted, from) {
					wantNothing(t, "a second grant", n, msgOf(m), 3)
					continue
				}
				want := impl.StepAnswer{Node: cloneNode(n)}
				want.Node.Granted = append(want.Node.Granted, from)
				slices.Sort(want.Node.Granted)
				if 2*(len(granted)+1) > size {
					want.Drew, want.Out = 1, toAll(n, impl.Msg{Kind: impl.KindVoteAsk, Term: 6, LogIndex: 5, LogTerm: 4})
					want.Node.Term, want.Node.Vote, want.Node.Role, want.Node.Granted, want.Node.Deadline = 6, 2, impl.RoleCandidate, []int{2}, 117
				}
				wantStep(t, "a grant", n, msgOf(m), want)
			}
		}
	}
}

func TestPreGrantsOutOfTurn(t *testing.T) {
	for _, role := range roles {
		for _, term := range []int{1, 4, 5, 6, 7, impl.MaxTerm} {
			m := impl.Msg{Kind: impl.KindPreReply, From: 3, To: 2, Term: term, Ok: 1}
			if role != impl.RoleAsking || term != 6 {
				wantNothing(t, "a grant out of turn", nodeIn(role, 3), msgOf(m), 3)
			}
			m.From = 2
			wantNothing(t, "a grant of its own", nodeIn(role, 3), msgOf(m), 1)
		}
	}
	n := nodeIn(impl.RoleAsking, 3)
	n.Term = impl.MaxTerm - 1
	a := impl.StepNode(n, msgOf(impl.Msg{Kind: impl.KindPreReply, From: 3, To: 2, Term: impl.MaxTerm, Ok: 1}))
	if a.Code != 0 || a.Node.Term != impl.MaxTerm || a.Node.Role != impl.RoleCandidate {
		t.Errorf("into the last term: %s", told(a))
	}
	n.Term = impl.MaxTerm
	wantNothing(t, "a grant in the last term", n, msgOf(impl.Msg{Kind: impl.KindPreReply, From: 3, To: 2, Term: impl.MaxTerm, Ok: 1}), 3)
}

func TestVotes(t *testing.T) {
	for _, size := range sizes {
		for _, granted := range grants(size) {
			for _, from := range []int{1, 3, size} {
				n := nodeIn(impl.RoleCandidate, size)
				n.Granted = granted
				m := impl.Msg{Kind: impl.KindVoteReply, From: from, To: 2, Term: 5, Ok: 1}
				no := m
				no.Ok = 0
				wantNothing(t, "a vote against", n, msgOf(no), 3)
				if slices.Contains(granted, from) {
					wantNothing(t, "a second vote", n, msgOf(m), 3)
					continue
				}
				want := impl.StepAnswer{Node: cloneNode(n)}
				want.Node.Granted = append(want.Node.Granted, from)
				slices.Sort(want.Node.Granted)
				if 2*(len(granted)+1) > size {
					want = leads(n)
				}
				wantStep(t, "a vote", n, msgOf(m), want)
			}
		}
	}
}

// leads: the answer when the candidate n becomes the leader.
func leads(n impl.Node) impl.StepAnswer {
	n = cloneNode(n)
	n.Role, n.Leader, n.Granted = impl.RoleLeader, n.Id, nil
	n.Next, n.Match, n.Seen, n.Sent = numbers(n.Size, len(n.Log)+1), numbers(n.Size, 0), numbers(n.Size, n.Now), numbers(n.Size, n.Now)
	n.Next[n.Id-1], n.Seen[n.Id-1], n.Sent[n.Id-1] = 0, 0, 0
	if len(n.Log) < 4096 {
		n.Log = append(n.Log, impl.Entry{Term: n.Term})
	}
	a := impl.StepAnswer{Node: n}
	for _, j := range othersOf(n) {
		a.Out = append(a.Out, entriesTo(n, j))
	}
	return a
}

// A new leader adds a blank entry and sends it, unless its log is full: then it sends a heartbeat.
func TestNewLeaders(t *testing.T) {
	for _, size := range []int{0, 1, 40, impl.MaxLog - 1, impl.MaxLog} {
		n := nodeIn(impl.RoleCandidate, 3)
		n.Log, n.Commit = longLog(size, 4), 0
		want := leads(n)
		if blanks := min(1, impl.MaxLog-size); len(want.Node.Log) != size+blanks || len(want.Out[1].Entries) != blanks || want.Out[1].LogIndex != size {
			t.Fatalf("the test itself is off at %d entries", size)
		}
		wantStep(t, "a new leader", n, msgOf(impl.Msg{Kind: impl.KindVoteReply, From: 1, To: 2, Term: 5, Ok: 1}), want)
	}
}
