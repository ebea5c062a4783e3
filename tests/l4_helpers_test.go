package tests

import (
	"fmt"
	"slices"
	"testing"

	"loop.example/s01586/impl"
)

var roles = []int{impl.RoleFollower, impl.RoleAsking, impl.RoleCandidate, impl.RoleLeader}

var sizes = []int{3, 5, 7}

func sameMsgs(a, b []impl.Msg) bool {
	return slices.EqualFunc(a, b, sameMsg)
}

// nodeLists: the lists of numbers of a node.
func nodeLists(n *impl.Node) []*[]int {
	return []*[]int{&n.Granted, &n.Next, &n.Match, &n.Seen, &n.Sent}
}

// nodeNumbers: what a node has beside its lists.
func nodeNumbers(n impl.Node) [12]int {
	return [12]int{n.Id, n.Size, n.Elect, n.Beat, n.Term, n.Vote, n.Role, n.Leader, n.Commit, n.Now, n.Deadline, n.Heard}
}

func sameNode(a, b impl.Node) bool {
	lists := nodeLists(&b)
	for i, list := range nodeLists(&a) {
		if !slices.Equal(*list, *lists[i]) {
			return false
		}
	}
	return nodeNumbers(a) == nodeNumbers(b) && slices.Equal(a.Log, b.Log)
}

func cloneNode(n impl.Node) impl.Node {
	n.Log = slices.Clone(n.Log)
	for _, list := range nodeLists(&n) {
		*list = slices.Clone(*list)
	}
	return n
}

// numbers is a list of n times x.
func numbers(n, x int) []int {
	return slices.Repeat([]int{x}, n)
}

// nodeIn is server 2 at its tick 100 in term 5, with entries of the terms 1, 1, 2, 4, 4, two of them agreed. It knows of no leader but itself.
func nodeIn(role, size int) impl.Node {
	n := impl.Node{Id: 2, Size: size, Elect: 10, Beat: 3, Term: 5, Role: role, Commit: 2, Now: 100, Deadline: 110, Heard: 70}
	n.Log = []impl.Entry{putEntry(1, 1, "a"), {Term: 1}, putEntry(2, 2, "b"), {Term: 4}, putEntry(4, 3, "c")}
	switch role {
	case impl.RoleAsking:
		n.Granted = []int{2}
	case impl.RoleCandidate:
		n.Vote, n.Granted = 2, []int{2}
	case impl.RoleLeader:
		n.Vote, n.Leader = 2, 2
		n.Next, n.Match, n.Seen, n.Sent = numbers(size, 4), numbers(size, 2), numbers(size, 95), numbers(size, 99)
		for _, list := range nodeLists(&n)[1:] {
			(*list)[n.Id-1] = 0
		}
	}
	return n
}

func tickOf(draw int) impl.Input {
	return impl.Input{Kind: impl.InTick, Draw: draw}
}

func msgOf(m impl.Msg) impl.Input {
	return impl.Input{Kind: impl.InMsg, Draw: 7, Msg: m}
}

func proposalOf(c impl.Cmd) impl.Input {
	return impl.Input{Kind: impl.InPropose, Draw: 7, Cmd: c}
}

var somePut = putEntry(1, 9, "new").Cmd

// othersOf: the servers of the node's cluster without itself.
func othersOf(n impl.Node) []int {
	var out []int
	for id := 1; id <= n.Size; id++ {
		if id != n.Id {
			out = append(out, id)
		}
	}
	return out
}

// toAll is the message, from the node, to each of the others.
func toAll(n impl.Node, m impl.Msg) []impl.Msg {
	var out []impl.Msg
	for _, id := range othersOf(n) {
		m.From, m.To = n.Id, id
		out = append(out, m)
	}
	return out
}

// entriesTo is what the leader n sends to j: the document's "sends entries".
func entriesTo(n impl.Node, j int) impl.Msg {
	p := n.Next[j-1] - 1
	m := impl.Msg{Kind: impl.KindAppend, From: n.Id, To: j, Term: n.Term, LogIndex: p, Commit: n.Commit}
	if p > 0 {
		m.LogTerm = n.Log[p-1].Term
	}
	for i := p; i < len(n.Log) && i < p+32; i++ {
		m.Entries = append(m.Entries, n.Log[i])
	}
	return m
}

// told writes a node or an answer without the bulk of a long log.
func told(x any) string {
	s := fmt.Sprintf("%+v", x)
	if len(s) > 2000 {
		return s[:2000] + " .."
	}
	return s
}

// wantStep holds the whole answer against the wanted one.
func wantStep(t *testing.T, what string, n impl.Node, in impl.Input, want impl.StepAnswer) {
	t.Helper()
	if f := impl.NodeFault(n); f != 0 {
		t.Fatalf("%s: the test's node has fault %d", what, f)
	}
	got := impl.StepNode(n, in)
	if got.Code != want.Code || got.Drew != want.Drew {
		t.Errorf("%s: code %d, drew %d, not %d, %d", what, got.Code, got.Drew, want.Code, want.Drew)
	}
	if !sameNode(got.Node, want.Node) {
		t.Errorf("%s: the node is\n%s, not\n%s", what, told(got.Node), told(want.Node))
	}
	if !sameMsgs(got.Out, want.Out) {
		t.Errorf("%s: sent\n%s, not\n%s", what, told(got.Out), told(want.Out))
	}
}

// wantNothing checks that the step has the code and that nothing else happened.
func wantNothing(t *testing.T, what string, n impl.Node, in impl.Input, code int) {
	t.Helper()
	wantStep(t, what, n, in, impl.StepAnswer{Code: code, Node: n})
}

// longLog: n entries of the term, each with a number of its own.
func longLog(n, term int) []impl.Entry {
	var out []impl.Entry
	for i := range n {
		out = append(out, putEntry(term, i+1, ""))
	}
	return out
}
