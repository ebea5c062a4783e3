package tests

import (
	"slices"

	"loop.example/s01586/impl"
)

// modelDraws is the feed of draws of one server or of a whole cluster.
type modelDraws struct {
	draws []int
	drawn int
}

// modelServer is the document's 6.2 and 6.3 told once more, by what the layers below answer.
type modelServer struct {
	su      impl.Setup
	id      int
	feed    *modelDraws
	calm    bool // within a calm round the draw is slot, and the feed is left alone
	slot    int
	up      bool
	tearing bool
	keep    int
	node    impl.Node
	disk    impl.Disk
	table   impl.Table
	applied int
	sends   []impl.Send
}

func newModelServer(su impl.Setup, id int, feed *modelDraws) *modelServer {
	m := &modelServer{su: su, id: id, feed: feed, disk: impl.Disk{Cap: su.Disk}}
	m.start()
	return m
}

// modelRun takes well-formed arguments.
func modelRun(su impl.Setup, id int, draws []int, events []impl.ServerEvent) impl.ServerTrace {
	feed := &modelDraws{draws: draws}
	m := newModelServer(su, id, feed)
	var outs []impl.ServerOut
	for _, ev := range events {
		outs = append(outs, m.happen(ev))
	}
	return impl.ServerTrace{Drawn: feed.drawn, Outs: outs, View: m.view()}
}

func (m *modelServer) draw() int {
	if m.calm {
		return m.slot
	}
	if f := m.feed; f.drawn < len(f.draws) {
		return f.draws[f.drawn]
	}
	return 0
}

func (m *modelServer) use(n int) {
	if !m.calm {
		m.feed.drawn += n
	}
}

func (m *modelServer) start() {
	r := impl.Restart(m.disk)
	m.disk = r.Disk
	m.node = impl.NewNode(m.id, m.su.Servers, m.su.Elect, m.su.Beat, r.Stable, m.draw())
	m.use(1)
	m.applied, m.table, m.up, m.tearing = 0, impl.Table{}, true, false
}

func (m *modelServer) down() {
	m.up, m.tearing, m.node, m.table, m.applied = false, false, impl.Node{}, impl.Table{}, 0
}

func (m *modelServer) happen(ev impl.ServerEvent) impl.ServerOut {
	was := m.applied
	m.sends = nil
	code := m.event(ev)
	out := impl.ServerOut{Code: code, Sends: m.sends}
	if m.up {
		out.From, out.To = was, m.applied
	}
	return out
}

func (m *modelServer) event(ev impl.ServerEvent) int {
	if ev.Kind == impl.EvStart {
		if m.up {
			return 1
		}
		m.start()
		return 0
	}
	if !m.up {
		return 1
	}
	switch ev.Kind {
	case impl.EvTick:
		return m.step(impl.Input{Kind: impl.InTick})
	case impl.EvPacket:
		return m.packet(ev.From, ev.Bytes)
	case impl.EvCrash:
		m.down()
	case impl.EvTear:
		m.tearing, m.keep = true, max(0, ev.Keep)
	}
	return 0
}

func stableIn(n impl.Node) impl.Stable {
	return impl.Stable{Term: n.Term, Vote: n.Vote, Log: n.Log}
}

func (m *modelServer) step(in impl.Input) int {
	in.Draw = m.draw()
	a := impl.StepNode(m.node, in)
	records := impl.PlanRecords(stableIn(m.node), stableIn(a.Node)).Records
	written := impl.DiskWrite(m.disk, records)
	if len(records) > 0 && written.Code == 3 {
		return 3
	}
	m.use(a.Drew)
	if len(records) > 0 {
		if m.tearing {
			m.disk = impl.DiskCrash(written.Disk, m.keep)
			m.down()
			return 4
		}
		m.disk = impl.DiskSync(written.Disk)
	}
	m.node = a.Node
	for _, x := range a.Out {
		m.sends = append(m.sends, sendMsg(x))
	}
	for m.applied < m.node.Commit {
		c := m.node.Log[m.applied].Cmd
		x := impl.ApplyCmd(m.table, c)
		m.table = x.Table
		m.applied++
		if m.node.Role == impl.RoleLeader && (x.Code == 0 || x.Code == 2) {
			m.sends = append(m.sends, doneOf(c.Client, c.Seq, x.Result, x.Val))
		}
	}
	return 0
}

func (m *modelServer) packet(from int, b []byte) int {
	msg, call := impl.DecodeMsg(b), impl.DecodeCall(b)
	switch {
	case msg.Code == 0 && msg.Msg.From == from && msg.Msg.To == m.id:
		return m.step(impl.Input{Kind: impl.InMsg, Msg: msg.Msg})
	case call.Code == 0 && from == 10+call.Cmd.Client:
		return m.call(call.Cmd)
	}
	return 2
}

func (m *modelServer) call(c impl.Cmd) int {
	if m.node.Role != impl.RoleLeader {
		m.sends = append(m.sends, redirectOf(c.Client, c.Seq, m.node.Leader))
		return 0
	}
	for _, s := range m.table.Sessions {
		if s.Client == c.Client && s.Seq == c.Seq {
			m.sends = append(m.sends, doneOf(c.Client, c.Seq, s.Code, s.Val))
			return 0
		}
		if s.Client == c.Client && s.Seq > c.Seq {
			return 0
		}
	}
	for _, e := range m.node.Log[m.applied:] {
		if e.Cmd.Client == c.Client && e.Cmd.Seq == c.Seq {
			return 0
		}
	}
	return m.step(impl.Input{Kind: impl.InPropose, Cmd: c})
}

func (m *modelServer) view() impl.ServerView {
	v := impl.ServerView{Id: m.id, Disk: m.disk}
	if !m.up {
		s := impl.Recover(m.disk.Data).Stable
		v.Term, v.Vote, v.Log = s.Term, s.Vote, slices.Clone(s.Log)
		return v
	}
	n := m.node
	v.Up, v.Role, v.Term, v.Vote, v.Leader, v.Commit = 1, n.Role, n.Term, n.Vote, n.Leader, n.Commit
	v.Applied, v.Log, v.Table = m.applied, slices.Clone(n.Log), m.table
	return v
}
