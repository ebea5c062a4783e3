package tests

import (
	"slices"

	"loop.example/s01586/impl"
)

// model is the document's 4.3 to 4.9 told once more, sentence by sentence, on the node's lists themselves.
type model struct {
	n          impl.Node
	draw, drew int
	out        []impl.Msg
}

// modelStep takes a well-formed node.
func modelStep(n impl.Node, in impl.Input) impl.StepAnswer {
	m := &model{n: cloneNode(n), draw: in.Draw}
	code := 8
	switch in.Kind {
	case impl.InTick:
		code = m.tick()
	case impl.InMsg:
		code = m.message(in.Msg)
	case impl.InPropose:
		code = m.proposal(in.Cmd)
	}
	return impl.StepAnswer{Code: code, Drew: m.drew, Node: m.n, Out: m.out}
}

func (m *model) setTimer() {
	m.n.Deadline = m.n.Now + m.n.Elect + floorMod(m.draw, m.n.Elect)
	m.drew = 1
}

func (m *model) last() (int, int) {
	if len(m.n.Log) == 0 {
		return 0, 0
	}
	return len(m.n.Log), m.n.Log[len(m.n.Log)-1].Term
}

func (m *model) emptyLists() {
	for _, list := range nodeLists(&m.n) {
		*list = nil
	}
}

func (m *model) adopt(term int) {
	wasLeader := m.n.Role == impl.RoleLeader
	m.n.Term, m.n.Vote, m.n.Role, m.n.Leader = term, 0, impl.RoleFollower, 0
	m.emptyLists()
	if wasLeader {
		m.setTimer()
	}
}

func (m *model) sendEntries(j int) {
	m.out = append(m.out, entriesTo(m.n, j))
	m.n.Sent[j-1] = m.n.Now
}

func (m *model) answer(to int, a impl.Msg) int {
	a.From, a.To = m.n.Id, to
	m.out = append(m.out, a)
	return 0
}

func (m *model) tick() int {
	if m.n.Now == 1<<40 {
		return 7
	}
	m.n.Now++
	if m.n.Role == impl.RoleLeader {
		m.leaderTick()
		return 0
	}
	if m.n.Now < m.n.Deadline {
		return 0
	}
	m.n.Leader = 0
	m.setTimer()
	if m.n.Term == 1<<30 {
		m.n.Role, m.n.Granted = impl.RoleFollower, nil
		return 0
	}
	m.n.Role, m.n.Granted = impl.RoleAsking, []int{m.n.Id}
	index, term := m.last()
	m.out = toAll(m.n, impl.Msg{Kind: impl.KindPreAsk, Term: m.n.Term + 1, LogIndex: index, LogTerm: term})
	return 0
}

func (m *model) leaderTick() {
	count := 1
	for _, j := range othersOf(m.n) {
		if m.n.Now-m.n.Seen[j-1] < m.n.Elect {
			count++
		}
	}
	if 2*count < m.n.Size {
		m.n.Role, m.n.Leader = impl.RoleFollower, 0
		m.emptyLists()
		m.setTimer()
		return
	}
	for _, j := range othersOf(m.n) {
		if m.n.Now-m.n.Sent[j-1] >= m.n.Beat {
			m.sendEntries(j)
		}
	}
}

func (m *model) message(x impl.Msg) int {
	if impl.MsgFault(x) != 0 || x.To != m.n.Id || x.From > m.n.Size {
		return 1
	}
	loyal := m.n.Role == impl.RoleLeader || m.n.Leader != 0 && m.n.Now-m.n.Heard < m.n.Elect
	switch x.Kind {
	case impl.KindPreAsk, impl.KindVoteAsk:
		if loyal {
			return 2
		}
		index, term := m.last()
		return m.ask(x, x.LogTerm > term || x.LogTerm == term && x.LogIndex >= index)
	case impl.KindPreReply:
		return m.preReply(x)
	case impl.KindVoteReply:
		return m.voteReply(x)
	case impl.KindAppend:
		return m.entries(x)
	}
	return m.entriesReply(x)
}

func (m *model) ask(x impl.Msg, upToDate bool) int {
	if x.Kind == impl.KindPreAsk {
		if x.Term > m.n.Term && upToDate {
			return m.answer(x.From, impl.Msg{Kind: impl.KindPreReply, Term: x.Term, Ok: 1})
		}
		return m.answer(x.From, impl.Msg{Kind: impl.KindPreReply, Term: m.n.Term})
	}
	if x.Term < m.n.Term {
		return m.answer(x.From, impl.Msg{Kind: impl.KindVoteReply, Term: m.n.Term})
	}
	if x.Term > m.n.Term {
		m.adopt(x.Term)
	}
	if (m.n.Vote != 0 && m.n.Vote != x.From) || !upToDate {
		return m.answer(x.From, impl.Msg{Kind: impl.KindVoteReply, Term: m.n.Term})
	}
	m.n.Vote, m.n.Role, m.n.Leader, m.n.Granted = x.From, impl.RoleFollower, 0, nil
	m.setTimer()
	return m.answer(x.From, impl.Msg{Kind: impl.KindVoteReply, Term: m.n.Term, Ok: 1})
}

// granted puts the server in, and tells whether there is a majority.
func (m *model) granted(id int) bool {
	m.n.Granted = append(m.n.Granted, id)
	slices.Sort(m.n.Granted)
	return 2*len(m.n.Granted) > m.n.Size
}

func (m *model) preReply(x impl.Msg) int {
	if x.Ok == 0 {
		if x.Term <= m.n.Term {
			return 3
		}
		m.adopt(x.Term)
		return 0
	}
	if m.n.Role != impl.RoleAsking || x.Term != m.n.Term+1 || slices.Contains(m.n.Granted, x.From) {
		return 3
	}
	if m.granted(x.From) {
		m.n.Term++
		m.n.Vote, m.n.Role, m.n.Granted = m.n.Id, impl.RoleCandidate, []int{m.n.Id}
		m.setTimer()
		index, term := m.last()
		m.out = toAll(m.n, impl.Msg{Kind: impl.KindVoteAsk, Term: m.n.Term, LogIndex: index, LogTerm: term})
	}
	return 0
}

func (m *model) voteReply(x impl.Msg) int {
	if x.Term > m.n.Term {
		m.adopt(x.Term)
		return 0
	}
	if m.n.Role != impl.RoleCandidate || x.Term < m.n.Term || x.Ok == 0 || slices.Contains(m.n.Granted, x.From) {
		return 3
	}
	if m.granted(x.From) {
		m.lead()
	}
	return 0
}

func (m *model) lead() {
	m.n.Role, m.n.Leader = impl.RoleLeader, m.n.Id
	m.emptyLists()
	for _, list := range nodeLists(&m.n)[1:] {
		*list = make([]int, m.n.Size)
	}
	for _, j := range othersOf(m.n) {
		m.n.Next[j-1], m.n.Seen[j-1], m.n.Sent[j-1] = len(m.n.Log)+1, m.n.Now, m.n.Now
	}
	if len(m.n.Log) < 4096 {
		m.n.Log = append(m.n.Log, impl.Entry{Term: m.n.Term})
	}
	for _, j := range othersOf(m.n) {
		m.sendEntries(j)
	}
}

func (m *model) entries(x impl.Msg) int {
	if x.Term < m.n.Term {
		return m.answer(x.From, impl.Msg{Kind: impl.KindAppendReply, Term: m.n.Term, LogIndex: x.LogIndex})
	}
	if x.Term > m.n.Term {
		m.adopt(x.Term)
	}
	if m.n.Role == impl.RoleLeader {
		return 3
	}
	m.n.Role, m.n.Leader, m.n.Granted, m.n.Heard = impl.RoleFollower, x.From, nil, m.n.Now
	m.setTimer()
	p := x.LogIndex
	if p > len(m.n.Log) || p > 0 && m.n.Log[p-1].Term != x.LogTerm {
		return m.answer(x.From, impl.Msg{Kind: impl.KindAppendReply, Term: m.n.Term, LogIndex: p, Hint: min(len(m.n.Log), p-1)})
	}
	for i, e := range x.Entries {
		place := p + 1 + i
		if place <= len(m.n.Log) && m.n.Log[place-1].Term == e.Term {
			continue
		}
		if place <= len(m.n.Log) && place <= m.n.Commit {
			return 3
		}
		m.n.Log = append(m.n.Log[:place-1], x.Entries[i:]...)
		break
	}
	end := p + len(x.Entries)
	m.n.Commit = max(m.n.Commit, min(x.Commit, end))
	return m.answer(x.From, impl.Msg{Kind: impl.KindAppendReply, Term: m.n.Term, Ok: 1, LogIndex: end})
}

func (m *model) entriesReply(x impl.Msg) int {
	if x.Term > m.n.Term {
		m.adopt(x.Term)
		return 0
	}
	if m.n.Role != impl.RoleLeader || x.Term < m.n.Term {
		return 3
	}
	at := x.From - 1
	m.n.Seen[at] = m.n.Now
	if x.Ok == 0 {
		if x.LogIndex != m.n.Next[at]-1 {
			return 3
		}
		m.n.Next[at] = max(m.n.Match[at]+1, min(x.Hint, x.LogIndex-1)+1)
		m.sendEntries(x.From)
		return 0
	}
	if x.LogIndex > len(m.n.Log) {
		return 3
	}
	m.n.Match[at] = max(m.n.Match[at], x.LogIndex)
	m.n.Next[at] = max(m.n.Next[at], m.n.Match[at]+1)
	m.agree()
	if m.n.Next[at] <= len(m.n.Log) {
		m.sendEntries(x.From)
	}
	return 0
}

func (m *model) agree() {
	for k := m.n.Commit + 1; k <= len(m.n.Log); k++ {
		count := 1
		for _, j := range othersOf(m.n) {
			if m.n.Match[j-1] >= k {
				count++
			}
		}
		if m.n.Log[k-1].Term == m.n.Term && 2*count > m.n.Size {
			m.n.Commit = k
		}
	}
}

func (m *model) proposal(c impl.Cmd) int {
	switch {
	case impl.CmdFault(c) != 0 || c.Op == impl.OpNone:
		return 6
	case m.n.Role != impl.RoleLeader:
		return 4
	case len(m.n.Log) == 4096:
		return 5
	}
	m.n.Log = append(m.n.Log, impl.Entry{Term: m.n.Term, Cmd: c})
	for _, j := range othersOf(m.n) {
		m.sendEntries(j)
	}
	return 0
}
