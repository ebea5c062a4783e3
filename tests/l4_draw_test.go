package tests

import (
	"math/rand"
	"slices"

	"loop.example/s01586/impl"
)

// Drawn nodes and inputs: near to each other, so that every rule of a step has its turn.

func oneIn(random *rand.Rand, n int) bool {
	return random.Intn(n) == 0
}

func drawLog(random *rand.Rand) []impl.Entry {
	n := random.Intn(7)
	if oneIn(random, 20) {
		n = 28 + random.Intn(45)
	}
	var log []impl.Entry
	term := 1
	for i := range n {
		if oneIn(random, 3) {
			term += random.Intn(3)
		}
		e := impl.Entry{Term: term}
		if random.Intn(4) > 0 {
			e = putEntry(term, i+1, letters(random.Intn(3)))
		}
		log = append(log, e)
	}
	return log
}

// drawNode: a well-formed node.
func drawNode(random *rand.Rand) impl.Node {
	n := impl.Node{Size: sizes[random.Intn(3)], Elect: 2 + random.Intn(12), Role: random.Intn(4), Log: drawLog(random)}
	n.Id = 1 + random.Intn(n.Size)
	n.Beat = 1 + random.Intn(n.Elect)
	if len(n.Log) > 0 {
		n.Term = n.Log[len(n.Log)-1].Term
	}
	n.Term += random.Intn(3)
	switch {
	case oneIn(random, 30):
		n.Term = impl.MaxTerm
	case n.Role >= impl.RoleCandidate:
		n.Term = max(n.Term, 1)
	}
	if n.Term > 0 {
		n.Vote = random.Intn(n.Size + 1)
	}
	n.Commit = random.Intn(len(n.Log) + 1)
	n.Now = random.Intn(40)
	if oneIn(random, 30) {
		n.Now = impl.MaxNow - random.Intn(20)
	}
	n.Deadline = max(0, n.Now-3+random.Intn(2*n.Elect+4))
	n.Heard = max(0, n.Now-random.Intn(2*n.Elect))
	return drawRole(random, n)
}

func drawRole(random *rand.Rand, n impl.Node) impl.Node {
	switch n.Role {
	case impl.RoleFollower:
		if n.Leader = random.Intn(n.Size + 1); n.Leader == n.Id {
			n.Leader = 0
		}
	case impl.RoleAsking, impl.RoleCandidate:
		n.Granted = []int{n.Id}
		for _, j := range othersOf(n) {
			if len(n.Granted) < n.Size/2 && oneIn(random, 2) {
				n.Granted = append(n.Granted, j)
			}
		}
		slices.Sort(n.Granted)
	case impl.RoleLeader:
		n.Leader = n.Id
		n.Next, n.Match, n.Seen, n.Sent = numbers(n.Size, 0), numbers(n.Size, 0), numbers(n.Size, 0), numbers(n.Size, 0)
		for _, j := range othersOf(n) {
			n.Next[j-1] = 1 + random.Intn(len(n.Log)+1)
			n.Match[j-1] = random.Intn(n.Next[j-1])
			n.Seen[j-1] = max(0, n.Now-random.Intn(n.Elect+2))
			n.Sent[j-1] = max(0, n.Now-random.Intn(n.Beat+2))
		}
	}
	if n.Role >= impl.RoleCandidate {
		n.Vote = n.Id
	}
	return n
}

func drawInput(random *rand.Rand, n impl.Node) impl.Input {
	in := impl.Input{Kind: impl.InMsg, Draw: random.Intn(4000) - 2000}
	switch random.Intn(20) {
	case 0, 1, 2, 3:
		in.Kind = impl.InTick
	case 4, 5:
		in.Kind = impl.InPropose
	case 6:
		in.Kind = random.Intn(9) - 3
	}
	in.Msg = drawMsg(random, n)
	in.Cmd = somePut
	if oneIn(random, 8) {
		in.Cmd = impl.Cmd{Op: random.Intn(6)}
	}
	return in
}

func drawMsg(random *rand.Rand, n impl.Node) impl.Msg {
	others := othersOf(n)
	m := impl.Msg{Kind: 1 + random.Intn(6), From: others[random.Intn(len(others))], To: n.Id, Term: n.Term}
	if oneIn(random, 2) {
		m.Term += random.Intn(4) - 1
	}
	switch m.Kind {
	case impl.KindPreAsk, impl.KindVoteAsk:
		m.LogIndex = max(0, len(n.Log)-1+random.Intn(3))
		m.LogTerm = drawTerm(random, n, m.LogIndex)
	case impl.KindPreReply:
		m.Ok = random.Intn(2)
		if m.Ok == 1 && random.Intn(5) > 0 {
			m.Term = n.Term + 1
		}
	case impl.KindVoteReply:
		m.Ok = random.Intn(2)
	case impl.KindAppend:
		m = drawAppend(random, n, m)
	case impl.KindAppendReply:
		m = drawAppendReply(random, n, m)
	}
	return bendMsg(random, m)
}

// bendMsg makes few messages ill-formed or strange.
func bendMsg(random *rand.Rand, m impl.Msg) impl.Msg {
	switch random.Intn(150) {
	case 0:
		m.From = random.Intn(10) - 1
	case 1:
		m.To = random.Intn(10) - 1
	case 2:
		m.Term = edges[random.Intn(len(edges))]
	case 3:
		m.LogIndex = edges[random.Intn(len(edges))]
	case 4:
		m.LogTerm = edges[random.Intn(len(edges))]
	case 5:
		m.Commit = edges[random.Intn(len(edges))]
	case 6:
		m.Ok = edges[random.Intn(len(edges))]
	case 7:
		m.Hint = edges[random.Intn(len(edges))]
	case 8:
		m.Kind = edges[random.Intn(len(edges))]
	case 9:
		m.Entries = blanks(2, 1)
	}
	return m
}

// drawTerm: mostly the term of the entry at the place, or one near to it.
func drawTerm(random *rand.Rand, n impl.Node, place int) int {
	if place == 0 {
		return 0
	}
	term := n.Term
	if place <= len(n.Log) {
		term = n.Log[place-1].Term
	}
	if oneIn(random, 4) {
		term += random.Intn(3) - 1
	}
	return max(1, term)
}

func drawAppend(random *rand.Rand, n impl.Node, m impl.Msg) impl.Msg {
	m.LogIndex = random.Intn(len(n.Log) + 2)
	if oneIn(random, 2) {
		m.LogIndex = min(n.Commit, len(n.Log))
	}
	m.LogTerm = drawTerm(random, n, m.LogIndex)
	m.Commit = random.Intn(len(n.Log) + 3)
	term := max(1, m.LogTerm)
	for i := range random.Intn(6) {
		place := m.LogIndex + 1 + i
		if place <= len(n.Log) && random.Intn(5) > 0 {
			term = max(term, n.Log[place-1].Term)
			m.Entries = append(m.Entries, n.Log[place-1])
			continue
		}
		term = min(max(1, m.Term), term+random.Intn(2))
		m.Entries = append(m.Entries, putEntry(term, 100+i, "other"))
	}
	return m
}

func drawAppendReply(random *rand.Rand, n impl.Node, m impl.Msg) impl.Msg {
	m.LogIndex = random.Intn(len(n.Log) + 2)
	m.Ok = random.Intn(2)
	if m.Ok == 0 {
		m.Hint = random.Intn(len(n.Log) + 2)
		if n.Role == impl.RoleLeader && random.Intn(4) > 0 {
			m.LogIndex = n.Next[m.From-1] - 1
		}
	}
	return m
}
