package tests

import (
	"math"
	"slices"
	"testing"

	"loop.example/s01586/impl"
)

// wantFault bends a copy of the node and asks for its fault; an ill-formed node also stops every step with Code 9.
func wantFault(t *testing.T, what string, n impl.Node, fault int, bend func(*impl.Node)) {
	t.Helper()
	n = cloneNode(n)
	if bend != nil {
		bend(&n)
	}
	if got := impl.NodeFault(n); got != fault {
		t.Errorf("%s: fault %d, not %d: %s", what, got, fault, told(n))
	}
	for kind := 0; kind <= 4; kind++ {
		a := impl.StepNode(n, impl.Input{Kind: kind, Cmd: somePut, Msg: impl.Msg{Kind: 5, From: 1, To: 2, Term: 6}})
		if fault != 0 && (a.Code != 9 || a.Drew != 0 || !sameNode(a.Node, impl.Node{}) || len(a.Out) != 0) {
			t.Errorf("%s: a step answers %s", what, told(a))
		}
		if fault == 0 && (a.Code == 9 || impl.NodeFault(a.Node) != 0) {
			t.Errorf("%s: a step answers %s", what, told(a))
		}
	}
}

func TestNodeFaultOfNone(t *testing.T) {
	for _, role := range roles {
		for _, size := range sizes {
			wantFault(t, "as it is", nodeIn(role, size), 0, nil)
		}
	}
	wantFault(t, "the zero node", impl.Node{}, 1, nil)
}

func TestNodeFaultPlace(t *testing.T) {
	n := nodeIn(impl.RoleFollower, 3)
	for _, size := range []int{math.MinInt, -3, -1, 0, 1, 2, 3, 4, 5, 6, 7, 8, 9, 11, math.MaxInt} {
		wantFault(t, "size", n, ruleIf(size != 3 && size != 5 && size != 7, 1), func(n *impl.Node) { n.Size = size })
	}
	for _, size := range sizes {
		for _, id := range []int{math.MinInt, -1, 0, 1, size - 1, size, size + 1, 8, math.MaxInt} {
			wantFault(t, "id", n, ruleIf(id < 1 || id > size, 1), func(n *impl.Node) { n.Size, n.Id = size, id })
		}
	}
	for _, elect := range []int{math.MinInt, -2, 0, 1, 2, 3, 999, 1000, 1001, math.MaxInt} {
		wantFault(t, "elect", n, ruleIf(elect < 2 || elect > 1000, 1), func(n *impl.Node) { n.Elect, n.Beat, n.Deadline = elect, 1, 100 })
	}
	for _, elect := range []int{2, 10, 1000} {
		for _, beat := range []int{math.MinInt, -1, 0, 1, elect - 1, elect, elect + 1, math.MaxInt} {
			wantFault(t, "beat", n, ruleIf(beat < 1 || beat > elect, 1), func(n *impl.Node) { n.Elect, n.Beat, n.Deadline = elect, beat, 100 })
		}
	}
}

func TestNodeFaultTermAndVote(t *testing.T) {
	for _, size := range sizes {
		n := nodeIn(impl.RoleFollower, size)
		for _, term := range []int{math.MinInt, -1, 5, impl.MaxTerm, impl.MaxTerm + 1, math.MaxInt} {
			wantFault(t, "term", n, ruleIf(term < 0 || term > 1<<30, 2), func(n *impl.Node) { n.Term = term })
		}
		for _, vote := range []int{math.MinInt, -1, 0, 1, size, size + 1, 8, math.MaxInt} {
			wantFault(t, "vote", n, ruleIf(vote < 0 || vote > size, 2), func(n *impl.Node) { n.Vote = vote })
			wantFault(t, "vote in term 0", n, ruleIf(vote != 0, 2), func(n *impl.Node) { n.Term, n.Vote, n.Log, n.Commit = 0, vote, nil, 0 })
			wantFault(t, "vote in term 1", n, ruleIf(vote < 0 || vote > size, 2), func(n *impl.Node) { n.Term, n.Vote, n.Log, n.Commit = 1, vote, nil, 0 })
		}
	}
}

func TestNodeFaultRole(t *testing.T) {
	for _, role := range []int{math.MinInt, -1, 4, math.MaxInt} {
		wantFault(t, "role", nodeIn(impl.RoleFollower, 3), 3, func(n *impl.Node) { n.Role = role })
	}
	for _, size := range sizes {
		for _, role := range roles {
			n := nodeIn(role, size)
			for _, leader := range []int{math.MinInt, -1, 0, 1, 2, 3, size, size + 1, math.MaxInt} {
				fine := leader == 0
				switch role {
				case impl.RoleFollower:
					fine = leader >= 0 && leader <= size && leader != 2
				case impl.RoleLeader:
					fine = leader == 2
				}
				wantFault(t, "leader", n, ruleIf(!fine, 3), func(n *impl.Node) { n.Leader = leader })
			}
			for vote := range size + 1 {
				wantFault(t, "vote of a role", n, ruleIf(role >= impl.RoleCandidate && vote != 2, 3), func(n *impl.Node) { n.Vote = vote })
			}
			termless := func(n *impl.Node) {
				n.Term, n.Vote, n.Log, n.Commit = 0, 0, nil, 0
				if role == impl.RoleLeader {
					n.Next, n.Match = numbers(size, 1), numbers(size, 0)
					n.Next[1] = 0
				}
			}
			wantFault(t, "term 0 in a role", n, ruleIf(role >= impl.RoleCandidate, 3), termless)
		}
	}
}

func TestNodeFaultLog(t *testing.T) {
	for _, role := range roles {
		n := nodeIn(role, 5)
		for terms, fault := range map[[4]int]int{
			{1, 1, 1, 1}: 0, {1, 2, 3, 5}: 0, {5, 5, 5, 5}: 0,
			{0, 1, 1, 1}: 4, {-1, 1, 1, 1}: 4, {2, 1, 2, 3}: 4, {1, 2, 3, 2}: 4, {1, 2, 3, 6}: 4, {6, 6, 6, 6}: 4, {1, 1, 1, math.MaxInt}: 4,
		} {
			wantFault(t, "terms", n, fault, func(n *impl.Node) { n.Log = blanks(terms[:]...) })
		}
		wantFault(t, "an ill-formed command", n, 4, func(n *impl.Node) { n.Log[4].Cmd.Key = "" })
		wantFault(t, "an ill-formed blank", n, 4, func(n *impl.Node) { n.Log[1].Cmd.Seq = 1 })
		wantFault(t, "the longest log", n, 0, func(n *impl.Node) { n.Log = longLog(impl.MaxLog, 1) })
		wantFault(t, "one entry more", n, 4, func(n *impl.Node) { n.Log = longLog(impl.MaxLog+1, 1) })
	}
	wantFault(t, "an entry in term 0", nodeIn(impl.RoleFollower, 3), 4, func(n *impl.Node) { n.Term, n.Commit, n.Log = 0, 0, blanks(1) })
}

func TestNodeFaultCommit(t *testing.T) {
	for _, role := range roles {
		for commit, fault := range map[int]int{math.MinInt: 5, -1: 5, 0: 0, 4: 0, 5: 0, 6: 5, math.MaxInt: 5} {
			wantFault(t, "commit", nodeIn(role, 7), fault, func(n *impl.Node) { n.Commit = commit })
		}
	}
	wantFault(t, "commit of no log", nodeIn(impl.RoleFollower, 7), 5, func(n *impl.Node) { n.Commit, n.Log = 1, nil })
}

func TestNodeFaultClock(t *testing.T) {
	for _, role := range roles {
		n := nodeIn(role, 3)
		for _, now := range []int{math.MinInt, -1, 0, 100, impl.MaxNow, impl.MaxNow + 1, math.MaxInt} {
			still := func(n *impl.Node) {
				n.Now, n.Deadline, n.Heard = now, 0, 0
				if role == impl.RoleLeader {
					n.Seen, n.Sent = numbers(3, 0), numbers(3, 0)
				}
			}
			wantFault(t, "now", n, ruleIf(now < 0 || now > 1<<40, 6), still)
		}
		for _, deadline := range []int{math.MinInt, -1, 0, 100, 119, 120, 121, math.MaxInt} {
			wantFault(t, "deadline", n, ruleIf(deadline < 0 || deadline > 120, 6), func(n *impl.Node) { n.Deadline = deadline })
		}
		for _, heard := range []int{math.MinInt, -1, 0, 99, 100, 101, math.MaxInt} {
			wantFault(t, "heard", n, ruleIf(heard < 0 || heard > 100, 6), func(n *impl.Node) { n.Heard = heard })
		}
	}
}

func TestNodeFaultGranted(t *testing.T) {
	for _, role := range roles {
		for _, size := range sizes {
			n := nodeIn(role, size)
			lists := [][]int{nil, {}, {2}, {1}, {3}, {1, 2}, {2, 3}, {2, 1}, {2, 2}, {0, 2}, {-1, 2}, {2, size}, {2, size + 1}, {2, math.MaxInt}, {math.MinInt, 2}, {1, 3}, {1, 2, 3}, {2, 3, size}, {1, 2, 2}, {1, 2, size + 1}, {1, 2, 3, 4}, {1, 2, 3, 4, 5}}
			for _, list := range lists {
				fine := len(list) == 0
				if role == impl.RoleAsking || role == impl.RoleCandidate {
					fine = slices.Contains(list, 2) && 2*len(list) < size && slices.Min(list) >= 1 && slices.Max(list) <= size && slices.IsSorted(list) && len(slices.Compact(slices.Clone(list))) == len(list)
				}
				wantFault(t, "granted", n, ruleIf(!fine, 7), func(n *impl.Node) { n.Granted = slices.Clone(list) })
			}
		}
	}
}

func TestNodeFaultListLengths(t *testing.T) {
	for _, size := range sizes {
		leader := nodeIn(impl.RoleLeader, size)
		for i := 1; i <= 4; i++ {
			bends := []func(list *[]int){
				func(list *[]int) { *list = (*list)[:size-1] },
				func(list *[]int) { *list = append(*list, 1) },
				func(list *[]int) { *list = append(*list, 0) },
				func(list *[]int) { *list = nil },
			}
			for _, bend := range bends {
				wantFault(t, "length", leader, 8, func(n *impl.Node) { bend(nodeLists(n)[i]) })
			}
			for _, role := range roles[:3] {
				other := nodeIn(role, size)
				wantFault(t, "a list too many", other, 8, func(n *impl.Node) { *nodeLists(n)[i] = []int{0} })
				wantFault(t, "a list too many", other, 8, func(n *impl.Node) { *nodeLists(n)[i] = *nodeLists(&leader)[i] })
				wantFault(t, "an empty list", other, 0, func(n *impl.Node) { *nodeLists(n)[i] = []int{} })
			}
			for _, x := range []int{1, -1} {
				wantFault(t, "its own", leader, 8, func(n *impl.Node) { (*nodeLists(n)[i])[1] = x })
			}
		}
	}
}

func TestNodeFaultListValues(t *testing.T) {
	for _, size := range sizes {
		n := nodeIn(impl.RoleLeader, size)
		for _, j := range othersOf(n) {
			for next, fault := range map[int]int{math.MinInt: 8, -1: 8, 0: 8, 1: 0, 5: 0, 6: 0, 7: 8, math.MaxInt: 8} {
				wantFault(t, "next", n, fault, func(n *impl.Node) { n.Next[j-1], n.Match[j-1] = next, 0 })
			}
			for match, fault := range map[int]int{math.MinInt: 8, -1: 8, 0: 0, 3: 0, 4: 8, 5: 8, math.MaxInt: 8} {
				wantFault(t, "match", n, fault, func(n *impl.Node) { n.Match[j-1] = match })
			}
			for tick, fault := range map[int]int{math.MinInt: 8, -1: 8, 0: 0, 99: 0, 100: 0, 101: 8, math.MaxInt: 8} {
				wantFault(t, "seen", n, fault, func(n *impl.Node) { n.Seen[j-1] = tick })
				wantFault(t, "sent", n, fault, func(n *impl.Node) { n.Sent[j-1] = tick })
			}
		}
	}
}

// With several faults at once the first is told.
func TestNodeFaultOrder(t *testing.T) {
	breaks := []func(*impl.Node){
		func(n *impl.Node) { n.Beat = 0 },
		func(n *impl.Node) { n.Term = impl.MaxTerm + 1 },
		func(n *impl.Node) { n.Leader = 1 },
		func(n *impl.Node) { n.Log = blanks(0, 1, 1) },
		func(n *impl.Node) { n.Commit = -1 },
		func(n *impl.Node) { n.Heard = -1 },
		func(n *impl.Node) { n.Granted = []int{2} },
		func(n *impl.Node) { n.Sent = numbers(2, 0) },
	}
	for set := 1; set < 1<<len(breaks); set++ {
		wantFault(t, "several", breakAll(nodeIn(impl.RoleLeader, 3), breaks, set), firstOf(set), nil)
	}
}
