package tests

import (
	"testing"

	"loop.example/s01586/impl"
)

// strange is a tick that carries what a tick does not look at.
func strange(draw int) impl.Input {
	return impl.Input{Kind: impl.InTick, Draw: draw, Msg: impl.Msg{Kind: 5, From: 1, To: 2, Term: 99}, Cmd: impl.Cmd{Op: 77}}
}

func TestTickAheadOfTheDeadline(t *testing.T) {
	for _, role := range roles[:3] {
		n := nodeIn(role, 5)
		for _, deadline := range []int{102, 110, 120} {
			n.Deadline = deadline
			want := impl.StepAnswer{Node: n}
			want.Node.Now = 101
			wantStep(t, "a patient tick", n, strange(4), want)
		}
	}
}

// At its deadline a node asks first: its term and its vote stay.
func TestTickAtTheDeadline(t *testing.T) {
	for _, size := range sizes {
		for _, role := range roles[:3] {
			for _, deadline := range []int{0, 100, 101} {
				for _, draw := range []int{-1, 0, 9, 10, 25} {
					n := nodeIn(role, size)
					n.Deadline = deadline
					if role == impl.RoleFollower {
						n.Leader, n.Vote, n.Heard = 1, 1, 100
					}
					if role != impl.RoleFollower && size > 3 {
						n.Granted = []int{1, 2}
					}
					want := impl.StepAnswer{Drew: 1, Node: n, Out: toAll(n, impl.Msg{Kind: impl.KindPreAsk, Term: 6, LogIndex: 5, LogTerm: 4})}
					want.Node.Now, want.Node.Deadline = 101, 101+10+floorMod(draw, 10)
					want.Node.Role, want.Node.Leader, want.Node.Granted = impl.RoleAsking, 0, []int{2}
					wantStep(t, "an impatient tick", n, strange(draw), want)
				}
			}
		}
	}
}

func TestTickOfAnEmptyNode(t *testing.T) {
	n := impl.NewNode(3, 3, 2, 1, impl.Stable{}, 0)
	a := impl.StepNode(n, tickOf(0))
	want := impl.StepAnswer{Drew: 1, Node: a.Node, Out: toAll(n, impl.Msg{Kind: impl.KindPreAsk, Term: 1})}
	want.Node.Now, want.Node.Deadline, want.Node.Role, want.Node.Granted = 2, 2+2+1, impl.RoleAsking, []int{3}
	wantStep(t, "no term and no log", a.Node, tickOf(1), want)
}

func TestTickAtMaxTerm(t *testing.T) {
	for _, role := range roles[:3] {
		n := nodeIn(role, 3)
		n.Term, n.Deadline = impl.MaxTerm-1, 101
		if a := impl.StepNode(n, tickOf(0)); a.Node.Role != impl.RoleAsking || len(a.Out) != 2 || a.Out[0].Term != impl.MaxTerm {
			t.Errorf("one ahead of MaxTerm: %s", told(a))
		}
		n.Term = impl.MaxTerm
		if role == impl.RoleFollower {
			n.Leader = 3
		}
		want := impl.StepAnswer{Drew: 1, Node: n}
		want.Node.Now, want.Node.Deadline = 101, 101+13
		want.Node.Role, want.Node.Leader, want.Node.Granted = impl.RoleFollower, 0, nil
		wantStep(t, "MaxTerm", n, strange(3), want)
	}
}

func TestTickAtMaxNow(t *testing.T) {
	for _, role := range roles {
		n := nodeIn(role, 3)
		n.Now, n.Deadline = impl.MaxNow-1, impl.MaxNow+9
		if role == impl.RoleLeader {
			n.Seen, n.Sent = []int{impl.MaxNow - 1, 0, 5}, []int{impl.MaxNow - 1, 0, impl.MaxNow - 1}
		}
		want := impl.StepAnswer{Node: n}
		want.Node.Now = impl.MaxNow
		wantStep(t, "the last tick", n, strange(3), want)
		wantNothing(t, "MaxNow", want.Node, strange(3), 7)
		n = want.Node
		n.Deadline = 0
		if role == impl.RoleLeader {
			n.Seen, n.Sent = numbers(3, 0), numbers(3, 0)
		}
		wantNothing(t, "MaxNow, long overdue", n, strange(3), 7)
	}
}

// A leader with nobody in hearing steps down, and sends nothing even if heartbeats are due.
func TestTickOfALeaderUnheard(t *testing.T) {
	for _, size := range sizes {
		n := nodeIn(impl.RoleLeader, size)
		n.Seen, n.Sent = numbers(size, 91), numbers(size, 0)
		n.Seen[1] = 0
		want := impl.StepAnswer{Drew: 1, Node: n}
		want.Node.Now, want.Node.Deadline, want.Node.Role, want.Node.Leader = 101, 101+10+8, impl.RoleFollower, 0
		for _, list := range nodeLists(&want.Node) {
			*list = nil
		}
		wantStep(t, "unheard", n, strange(-2), want)
	}
}
