package tests

import (
	"fmt"
	"math"
	"testing"

	"loop.example/s01586/impl"
)

func TestStepUnknownInput(t *testing.T) {
	for _, role := range roles {
		for _, kind := range []int{math.MinInt, -1, 0, 4, 5, math.MaxInt} {
			in := impl.Input{Kind: kind, Draw: 3, Cmd: somePut, Msg: impl.Msg{Kind: 5, From: 1, To: 2, Term: 9}}
			wantNothing(t, "an unknown kind", nodeIn(role, 3), in, 8)
		}
	}
}

// Messages that are ill-formed, for another server, or from outside of the cluster.
func TestStepForeignMessages(t *testing.T) {
	ill := []impl.Msg{
		{}, {Kind: 7, From: 1, To: 2, Term: 6}, {Kind: 5, From: 2, To: 2, Term: 6}, {Kind: 5, From: 0, To: 2, Term: 6}, {Kind: 5, From: 8, To: 2, Term: 6},
		{Kind: 5, From: 1, To: 2}, {Kind: 3, From: 1, To: 2, Term: impl.MaxTerm + 1}, {Kind: 1, From: 1, To: 2, Term: 6, LogIndex: 1}, {Kind: 6, From: 1, To: 2, Term: 6, Ok: 2},
		{Kind: 5, From: 1, To: 2, Term: 6, Entries: blanks(7)}, {Kind: 4, From: 1, To: 2, Term: 6, Ok: 1, Entries: blanks(1)},
	}
	for _, role := range roles {
		for _, m := range ill {
			wantNothing(t, "ill-formed", nodeIn(role, 7), msgOf(m), 1)
		}
		for _, size := range sizes {
			n := nodeIn(role, size)
			for kind := 1; kind <= 6; kind++ {
				for to := 1; to <= 7; to++ {
					for from := 1; from <= 7; from++ {
						a := impl.StepNode(n, msgOf(impl.Msg{Kind: kind, From: from, To: to, Term: 6}))
						foreign := to != 2 || from > size || from == to
						if foreign != (a.Code == 1) || foreign && !sameNode(a.Node, n) {
							t.Errorf("kind %d from %d to %d of %d: %s", kind, from, to, size, told(a))
						}
					}
				}
			}
		}
	}
}

// What each role makes of each kind of message with a term below, equal to and above its own: the code, the role and term behind it, how many messages go out, and whether the timer was set.
// The node is in term 5 of a cluster of 5; it is not loyal unless it leads. The sender's log is as far as the node's own.
func TestStepKindsRolesTerms(t *testing.T) {
	adopted, adoptedByLeader := "0 F6 0 0", "0 F6 0 1"
	table := []struct {
		what string
		m    impl.Msg
		want [4][3]string
	}{
		{"pre-ask", impl.Msg{Kind: 1, LogIndex: 5, LogTerm: 4}, [4][3]string{
			{"0 F5 1 0", "0 F5 1 0", "0 F5 1 0"}, {"0 A5 1 0", "0 A5 1 0", "0 A5 1 0"}, {"0 C5 1 0", "0 C5 1 0", "0 C5 1 0"}, {"2 L5 0 0", "2 L5 0 0", "2 L5 0 0"}}},
		{"pre-reply, no", impl.Msg{Kind: 2}, [4][3]string{
			{"3 F5 0 0", "3 F5 0 0", adopted}, {"3 A5 0 0", "3 A5 0 0", adopted}, {"3 C5 0 0", "3 C5 0 0", adopted}, {"3 L5 0 0", "3 L5 0 0", adoptedByLeader}}},
		{"pre-reply, yes", impl.Msg{Kind: 2, Ok: 1}, [4][3]string{
			{"3 F5 0 0", "3 F5 0 0", "3 F5 0 0"}, {"3 A5 0 0", "3 A5 0 0", "0 A5 0 0"}, {"3 C5 0 0", "3 C5 0 0", "3 C5 0 0"}, {"3 L5 0 0", "3 L5 0 0", "3 L5 0 0"}}},
		{"vote ask", impl.Msg{Kind: 3, LogIndex: 5, LogTerm: 4}, [4][3]string{
			{"0 F5 1 0", "0 F5 1 1", "0 F6 1 1"}, {"0 A5 1 0", "0 F5 1 1", "0 F6 1 1"}, {"0 C5 1 0", "0 C5 1 0", "0 F6 1 1"}, {"2 L5 0 0", "2 L5 0 0", "2 L5 0 0"}}},
		{"vote reply, no", impl.Msg{Kind: 4}, [4][3]string{
			{"3 F5 0 0", "3 F5 0 0", adopted}, {"3 A5 0 0", "3 A5 0 0", adopted}, {"3 C5 0 0", "3 C5 0 0", adopted}, {"3 L5 0 0", "3 L5 0 0", adoptedByLeader}}},
		{"vote reply, yes", impl.Msg{Kind: 4, Ok: 1}, [4][3]string{
			{"3 F5 0 0", "3 F5 0 0", adopted}, {"3 A5 0 0", "3 A5 0 0", adopted}, {"3 C5 0 0", "0 C5 0 0", adopted}, {"3 L5 0 0", "3 L5 0 0", adoptedByLeader}}},
		{"entries", impl.Msg{Kind: 5, LogIndex: 5, LogTerm: 4}, [4][3]string{
			{"0 F5 1 0", "0 F5 1 1", "0 F6 1 1"}, {"0 A5 1 0", "0 F5 1 1", "0 F6 1 1"}, {"0 C5 1 0", "0 F5 1 1", "0 F6 1 1"}, {"0 L5 1 0", "3 L5 0 0", "0 F6 1 1"}}},
		{"entries reply, no", impl.Msg{Kind: 6, LogIndex: 3}, [4][3]string{
			{"3 F5 0 0", "3 F5 0 0", adopted}, {"3 A5 0 0", "3 A5 0 0", adopted}, {"3 C5 0 0", "3 C5 0 0", adopted}, {"3 L5 0 0", "0 L5 1 0", adoptedByLeader}}},
		{"entries reply, yes", impl.Msg{Kind: 6, LogIndex: 3, Ok: 1}, [4][3]string{
			{"3 F5 0 0", "3 F5 0 0", adopted}, {"3 A5 0 0", "3 A5 0 0", adopted}, {"3 C5 0 0", "3 C5 0 0", adopted}, {"3 L5 0 0", "0 L5 1 0", adoptedByLeader}}},
	}
	for _, row := range table {
		for _, role := range roles {
			for i, term := range []int{4, 5, 6} {
				m := row.m
				m.From, m.To, m.Term = 4, 2, term
				n := nodeIn(role, 5)
				a := impl.StepNode(n, msgOf(m))
				got := fmt.Sprintf("%d %c%d %d %d", a.Code, "FACL"[a.Node.Role], a.Node.Term, len(a.Out), a.Drew)
				if got != row.want[role][i] {
					t.Errorf("%s of term %d in role %d: %s, not %s", row.what, term, role, got, row.want[role][i])
				}
				wantStep(t, row.what, n, msgOf(m), modelStep(n, msgOf(m)))
				if a.Code != 0 && !sameNode(a.Node, n) {
					t.Errorf("%s of term %d in role %d: the node became %s", row.what, term, role, told(a.Node))
				}
			}
		}
	}
}

// Adopting a term: nothing is left of the vote, the role, the leader and the lists; the log, Commit, Now and Heard stay.
func TestStepAdopts(t *testing.T) {
	for _, role := range roles {
		for _, size := range sizes {
			for _, term := range []int{6, 99, impl.MaxTerm} {
				for _, m := range []impl.Msg{{Kind: 2}, {Kind: 4}, {Kind: 4, Ok: 1}, {Kind: 6}, {Kind: 6, Ok: 1}, {Kind: 6, LogIndex: impl.MaxLog, Hint: impl.MaxLog}} {
					m.From, m.To, m.Term = 3, 2, term
					n := nodeIn(role, size)
					if role == impl.RoleFollower {
						n.Vote, n.Leader, n.Heard = 1, 1, 99
					}
					want := impl.StepAnswer{Node: n}
					want.Node.Term, want.Node.Vote, want.Node.Role, want.Node.Leader = term, 0, impl.RoleFollower, 0
					for _, list := range nodeLists(&want.Node) {
						*list = nil
					}
					if role == impl.RoleLeader {
						want.Drew, want.Node.Deadline = 1, 100+10+7
					}
					wantStep(t, "a higher term", n, msgOf(m), want)
				}
			}
		}
	}
}

func TestStepProposals(t *testing.T) {
	for _, role := range roles {
		n := nodeIn(role, 5)
		for _, c := range []impl.Cmd{{}, {Op: 5}, {Client: 1, Seq: 1, Op: impl.OpGet}, {Client: 9, Seq: 1, Op: impl.OpGet, Key: "k"}, {Client: 1, Op: impl.OpGet, Key: "k"}, {Client: 1, Seq: 1, Op: impl.OpDel, Key: "k", Val: "v"}} {
			wantNothing(t, "an ill-formed command", n, proposalOf(c), 6)
		}
		if role != impl.RoleLeader {
			wantNothing(t, "no leader", n, proposalOf(somePut), 4)
			n.Log = longLog(impl.MaxLog, 1)
			wantNothing(t, "no leader, a full log", n, proposalOf(somePut), 4)
		}
	}
	for _, size := range sizes {
		for _, c := range []impl.Cmd{somePut, {Client: 8, Seq: impl.MaxSeq, Op: impl.OpCas, Key: letters(64), Val: letters(64), Old: letters(64)}, {Client: 1, Seq: 1, Op: impl.OpGet, Key: "k"}} {
			n := nodeIn(impl.RoleLeader, size)
			want := impl.StepAnswer{Node: cloneNode(n)}
			want.Node.Log = append(want.Node.Log, impl.Entry{Term: 5, Cmd: c})
			for _, j := range othersOf(n) {
				want.Out = append(want.Out, entriesTo(want.Node, j))
				want.Node.Sent[j-1] = 100
			}
			in := proposalOf(c)
			in.Msg = impl.Msg{Kind: 5, From: 1, To: 2, Term: 9}
			wantStep(t, "a proposal", n, in, want)
		}
	}
}

func TestStepProposalsAtTheLogsEnd(t *testing.T) {
	n := nodeIn(impl.RoleLeader, 3)
	n.Log = longLog(impl.MaxLog-1, 1)
	a := impl.StepNode(n, proposalOf(somePut))
	if a.Code != 0 || len(a.Node.Log) != impl.MaxLog || a.Node.Log[impl.MaxLog-1] != (impl.Entry{Term: 5, Cmd: somePut}) || len(a.Out) != 2 {
		t.Errorf("the last place: code %d, %d entries", a.Code, len(a.Node.Log))
	}
	wantNothing(t, "a full log", a.Node, proposalOf(somePut), 5)
	wantNothing(t, "a full log and an ill-formed command", a.Node, proposalOf(impl.Cmd{}), 6)
}

// At most MaxBatch entries go into one message, from the peer's next place on.
func TestStepBatches(t *testing.T) {
	n := nodeIn(impl.RoleLeader, 7)
	n.Log = longLog(100, 5)
	n.Next = []int{1, 0, 68, 69, 70, 101, 100}
	n.Match = numbers(7, 0)
	a := impl.StepNode(n, proposalOf(somePut))
	for i, want := range [][2]int{{0, 32}, {67, 32}, {68, 32}, {69, 32}, {100, 1}, {99, 2}} {
		m := a.Out[i]
		if m.LogIndex != want[0] || len(m.Entries) != want[1] || m.Entries[0] != a.Node.Log[want[0]] || m.Entries[want[1]-1] != a.Node.Log[want[0]+want[1]-1] {
			t.Errorf("to %d: %d entries behind %d, not %d behind %d", m.To, len(m.Entries), m.LogIndex, want[1], want[0])
		}
	}
	n.Now, n.Sent = 100, numbers(7, 0)
	a = impl.StepNode(n, tickOf(0))
	sizes := []int{}
	for _, m := range a.Out {
		sizes = append(sizes, len(m.Entries))
	}
	if fmt.Sprint(sizes) != "[32 32 32 31 0 1]" {
		t.Errorf("the heartbeats carry %v", sizes)
	}
}
