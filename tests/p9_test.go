package tests

import (
	"math/rand"
	"testing"

	"loop.example/s01586/impl"
)

// Promise 9, its first half: a leader that hears nothing for Elect ticks has stepped down.

func TestP9UnheardLeaderStepsDown(t *testing.T) {
	random := rand.New(rand.NewSource(31))
	for range 3000 {
		n := drawNode(random)
		n.Now = min(n.Now, impl.MaxNow-n.Elect-1)
		if n.Role != impl.RoleLeader || impl.NodeFault(n) != 0 {
			continue
		}
		term, vote := n.Term, n.Vote
		for range n.Elect {
			in := tickOf(random.Intn(1000))
			if n.Role == impl.RoleLeader && oneIn(random, 3) {
				n = impl.StepNode(n, proposalOf(somePut)).Node
			}
			was := n.Role
			a := impl.StepNode(n, in)
			n = a.Node
			if was == impl.RoleLeader && n.Role == impl.RoleFollower && (a.Drew != 1 || len(a.Out) != 0 || n.Leader != 0 || n.Vote != vote || n.Term != term) {
				t.Fatalf("stepping down: %s", told(a))
			}
		}
		if n.Role == impl.RoleLeader || n.Term != term {
			t.Fatalf("it still leads: %s", told(n))
		}
	}
}

// lastTick: the tick, counted from the start, with which a leader steps down whose others were seen just now.
func lastTick(n impl.Node) int {
	ticks := 0
	for n.Role == impl.RoleLeader && ticks < 5000 {
		n = impl.StepNode(n, tickOf(0)).Node
		ticks++
	}
	return ticks
}

// It happens with the last of the Elect ticks, not ahead of it.
func TestP9TheVeryTick(t *testing.T) {
	for _, size := range sizes {
		for _, elect := range []int{2, 3, 10, 1000} {
			n := nodeIn(impl.RoleLeader, size)
			n.Elect, n.Beat, n.Deadline = elect, 1, 0
			n.Seen = numbers(size, 100)
			n.Seen[1] = 0
			if got := lastTick(n); got != elect {
				t.Errorf("size %d, elect %d: stepped down at tick %d", size, elect, got)
			}
			// Of the others the one just needed for a majority was seen last three ticks ago.
			for i, j := range othersOf(n) {
				n.Seen[j-1] = 0
				if i < size/2 {
					n.Seen[j-1] = 97 + i
				}
			}
			if got := lastTick(n); got != max(1, elect-3) {
				t.Errorf("size %d, elect %d: stepped down at tick %d", size, elect, got)
			}
		}
	}
}

// A leader that hears of just enough others in time leads on; with one less it does not.
func TestP9JustEnough(t *testing.T) {
	for _, size := range sizes {
		for _, answers := range []impl.Msg{
			{Kind: impl.KindAppendReply, Term: 5, Ok: 1, LogIndex: 2}, {Kind: impl.KindAppendReply, Term: 5, LogIndex: 4, Hint: 1}, {Kind: impl.KindAppendReply, Term: 5, Ok: 1, LogIndex: 4000}, {Kind: impl.KindAppendReply, Term: 5, LogIndex: 4000},
		} {
			for count := range size {
				n := nodeIn(impl.RoleLeader, size)
				n.Seen = numbers(size, 100)
				n.Seen[1] = 0
				others := othersOf(n)
				for ticks := range 60 {
					n = impl.StepNode(n, tickOf(0)).Node
					// Each is heard of only every ninth tick, at a time of its own.
					for i, j := range others[len(others)-min(count, len(others)):] {
						if n.Role == impl.RoleLeader && (ticks+i)%9 == 0 {
							answers.From, answers.To = j, 2
							n = impl.StepNode(n, msgOf(answers)).Node
						}
					}
				}
				if leads := n.Role == impl.RoleLeader; leads != (count >= size/2) {
					t.Errorf("size %d, %d others heard of: leads %v", size, count, leads)
				}
			}
		}
	}
}

// Only an answer of the leader's own term to its entries counts as heard.
func TestP9WhatDoesNotCount(t *testing.T) {
	for _, m := range []impl.Msg{
		{Kind: impl.KindPreAsk, Term: 6, LogIndex: 9, LogTerm: 6}, {Kind: impl.KindVoteAsk, Term: 6, LogIndex: 9, LogTerm: 6}, {Kind: impl.KindPreReply, Term: 6, Ok: 1},
		{Kind: impl.KindVoteReply, Term: 5, Ok: 1}, {Kind: impl.KindAppend, Term: 4}, {Kind: impl.KindAppend, Term: 5}, {Kind: impl.KindAppendReply, Term: 4, Ok: 1}, {Kind: impl.KindAppendReply, Term: 4, LogIndex: 3},
	} {
		n := nodeIn(impl.RoleLeader, 3)
		for range 10 {
			for _, j := range []int{1, 3} {
				m.From, m.To = j, 2
				if n.Role == impl.RoleLeader {
					n = impl.StepNode(n, msgOf(m)).Node
				}
			}
			n = impl.StepNode(n, tickOf(0)).Node
		}
		if n.Role == impl.RoleLeader {
			t.Errorf("it still leads by %+v", m)
		}
	}
}

// A clock that stands at MaxNow ticks no more: the leader stays.
func TestP9AtMaxNow(t *testing.T) {
	n := nodeIn(impl.RoleLeader, 5)
	n.Now = impl.MaxNow - 5
	n.Seen = numbers(5, n.Now)
	n.Seen[1] = 0
	for i := range 30 {
		a := impl.StepNode(n, tickOf(0))
		if want := ruleIf(i >= 5, 7); a.Code != want || a.Node.Role != impl.RoleLeader || a.Node.Now != min(n.Now+1, impl.MaxNow) {
			t.Fatalf("tick %d: %s", i, told(a))
		}
		n = a.Node
	}
}
