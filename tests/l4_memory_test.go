package tests

import (
	"slices"
	"testing"

	"loop.example/s01586/impl"
)

// Chapter 0 for the core: an argument, and the room behind its end, is only read; an answer is new memory, and no two of its lists share any.

// roomyNode is a copy of n with room behind each list, and the function that tells whether all is as it was.
func roomyNode(n impl.Node) (impl.Node, func() bool) {
	log, wholeLog := roomy(n.Log, blanks(9, 9, 9)...)
	wholes, before := [][]int{}, [][]int{}
	for _, list := range nodeLists(&n) {
		part, whole := roomy(*list, 70, 71, 72, 73, 74, 75, 76)
		*list = part
		wholes, before = append(wholes, whole), append(before, slices.Clone(whole))
	}
	n.Log = log
	logBefore := slices.Clone(wholeLog)
	return n, func() bool {
		for i, whole := range wholes {
			if !slices.Equal(whole, before[i]) {
				return false
			}
		}
		return slices.Equal(wholeLog, logBefore)
	}
}

func scribbleNode(n impl.Node) {
	spoilEntries(n.Log)
	for _, list := range nodeLists(&n) {
		whole := (*list)[:cap(*list)]
		for i := range whole {
			whole[i] = 88
		}
	}
}

func cloneAnswer(a impl.StepAnswer) impl.StepAnswer {
	a.Node = cloneNode(a.Node)
	a.Out = slices.Clone(a.Out)
	for i := range a.Out {
		a.Out[i].Entries = slices.Clone(a.Out[i].Entries)
	}
	return a
}

func sameAnswer(a, b impl.StepAnswer) bool {
	return a.Code == b.Code && a.Drew == b.Drew && sameNode(a.Node, b.Node) && sameMsgs(a.Out, b.Out)
}

// coreInputs: inputs that bring a node of nodeIn to each of its answers.
func coreInputs() []impl.Input {
	ins := []impl.Input{tickOf(3), proposalOf(somePut), proposalOf(impl.Cmd{}), {Kind: 9}, msgOf(impl.Msg{})}
	for _, term := range []int{4, 5, 6} {
		ins = append(ins,
			msgOf(impl.Msg{Kind: 1, From: 1, To: 2, Term: term, LogIndex: 5, LogTerm: 4}), msgOf(impl.Msg{Kind: 2, From: 1, To: 2, Term: term, Ok: 1}), msgOf(impl.Msg{Kind: 2, From: 1, To: 2, Term: term}),
			msgOf(impl.Msg{Kind: 3, From: 1, To: 2, Term: term, LogIndex: 5, LogTerm: 4}), msgOf(impl.Msg{Kind: 4, From: 1, To: 2, Term: term, Ok: 1}),
			msgOf(impl.Msg{Kind: 6, From: 1, To: 2, Term: term, Ok: 1, LogIndex: 3}), msgOf(impl.Msg{Kind: 6, From: 1, To: 2, Term: term, LogIndex: 3, Hint: 1}))
	}
	for _, entries := range [][]impl.Entry{nil, {{Term: 1}}, blanks(2, 4, 4, 5, 5), blanks(5, 5)} {
		ins = append(ins, msgOf(appendOf(5, 2, 1, 4, entries...)), msgOf(appendOf(6, 2, 1, 4, entries...)), msgOf(appendOf(6, 1, 1, 4, entries...)))
	}
	return ins
}

func coreNodes() []impl.Node {
	var out []impl.Node
	for _, role := range roles {
		for _, size := range sizes {
			n := nodeIn(role, size)
			out = append(out, n)
			n.Deadline = 0
			if role == impl.RoleLeader {
				n.Sent = numbers(size, 0)
			}
			out = append(out, n)
		}
	}
	return out
}

func TestStepIsNewMemory(t *testing.T) {
	for _, plain := range coreNodes() {
		for _, in := range coreInputs() {
			n, untouched := roomyNode(plain)
			entries, wholeEntries := roomy(in.Msg.Entries, blanks(9, 9, 9)...)
			entriesBefore := slices.Clone(wholeEntries)
			in.Msg.Entries = entries
			a := impl.StepNode(n, in)
			if !untouched() || !slices.Equal(wholeEntries, entriesBefore) {
				t.Fatalf("the arguments were written into: %s by %s", told(plain), told(in))
			}
			want := cloneAnswer(a)
			scribbleNode(n)
			spoilEntries(wholeEntries)
			if !sameAnswer(a, want) {
				t.Fatalf("the answer shares memory with the arguments: %s by %s", told(plain), told(in))
			}
		}
	}
}

func TestStepListsAreApart(t *testing.T) {
	for _, n := range coreNodes() {
		for _, in := range coreInputs() {
			want := impl.StepNode(n, in)
			for i := range 5 + 1 + len(want.Out) {
				a := impl.StepNode(n, in)
				rest := cloneAnswer(a)
				switch {
				case i < 5:
					list := nodeLists(&a.Node)[i]
					whole := (*list)[:cap(*list)]
					for k := range whole {
						whole[k] = 88
					}
					*list = *nodeLists(&rest.Node)[i]
				case i == 5:
					spoilEntries(a.Node.Log)
					a.Node.Log = rest.Node.Log
				default:
					spoilEntries(a.Out[i-6].Entries)
					a.Out[i-6].Entries = rest.Out[i-6].Entries
				}
				if !sameAnswer(a, want) {
					t.Fatalf("list %d shares memory with another: %s by %s", i, told(n), told(in))
				}
			}
		}
	}
}

// However often it is asked, a step answers the same: nothing hangs on the order of a map.
func TestStepIsTheSameAgain(t *testing.T) {
	for _, n := range coreNodes() {
		if n.Size > 3 && len(n.Granted) > 0 {
			n.Granted = []int{2, n.Size}
		}
		for _, in := range coreInputs() {
			want := impl.StepNode(n, in)
			for range 12 {
				if got := impl.StepNode(n, in); !sameAnswer(got, want) {
					t.Fatalf("%s, and %s", told(got), told(want))
				}
			}
		}
	}
}

func TestNewNodeIsNewMemory(t *testing.T) {
	log, whole := roomy([]impl.Entry{putEntry(1, 1, "a"), {Term: 2}}, blanks(9, 9)...)
	before := slices.Clone(whole)
	st := impl.Stable{Term: 2, Log: log}
	n := impl.NewNode(1, 3, 10, 3, st, 0)
	want := cloneNode(n)
	spoilEntries(n.Log)
	if !slices.Equal(whole, before) {
		t.Error("the log was given out")
	}
	n = impl.NewNode(1, 3, 10, 3, st, 0)
	spoilEntries(whole)
	if !sameNode(n, want) {
		t.Errorf("the node shares memory with the state: %s", told(n))
	}
}

// An empty list and no list are the same to the core.
func TestNodesWithEmptyLists(t *testing.T) {
	for _, role := range roles[:3] {
		n := nodeIn(role, 3)
		n.Log, n.Commit = nil, 0
		filled := n
		filled.Log = []impl.Entry{}
		for _, list := range nodeLists(&filled) {
			if len(*list) == 0 {
				*list = []int{}
			}
		}
		for _, in := range coreInputs() {
			if a, b := impl.StepNode(n, in), impl.StepNode(filled, in); !sameAnswer(a, b) {
				t.Errorf("%s, and %s", told(a), told(b))
			}
		}
	}
}
