package tests

import (
	"fmt"
	"strings"

	"loop.example/s01586/impl"
)

// modelRunning is the document's 7.3 and 7.4 told once more, by what the layers below answer and the model of a server.
type modelRunning struct {
	su      impl.Setup
	feed    *modelDraws
	bag     impl.Bag
	servers []*modelServer
	clients []impl.Client
	rounds  int
	report  impl.Report
}

// outOfFuel is thrown by the unit for which there is no fuel.
type outOfFuel struct{}

// modelCluster takes a well-formed script.
func modelCluster(sc impl.Script) impl.Report {
	return modelPlay(sc).told()
}

// modelPlay is the cluster behind the last step.
func modelPlay(sc impl.Script) *modelRunning {
	m := &modelRunning{su: sc.Setup, feed: &modelDraws{draws: sc.Draws}, bag: impl.Bag{Next: 1}}
	for id := 1; id <= m.su.Servers; id++ {
		m.servers = append(m.servers, newModelServer(m.su, id, m.feed))
	}
	for id := 1; id <= m.su.Clients; id++ {
		m.clients = append(m.clients, impl.Client{Id: id, Servers: m.su.Servers, Retry: m.su.Retry, Target: (id-1)%m.su.Servers + 1})
	}
	m.steps(sc.Steps)
	return m
}

func (m *modelRunning) steps(steps []impl.Step) {
	defer func() {
		if x := recover(); x != nil {
			if _, fuel := x.(outOfFuel); !fuel {
				panic(x)
			}
			m.report.Code = 2
		}
	}()
	for _, st := range steps {
		m.step(st)
		m.report.Done++
	}
}

func (m *modelRunning) unit() {
	if m.report.Used == impl.MaxFuel {
		panic(outOfFuel{})
	}
	m.report.Used++
}

func (m *modelRunning) step(st impl.Step) {
	switch st.Kind {
	case impl.StTick:
		for range st.B {
			m.unit()
			m.server(st.A, evTick)
		}
	case impl.StCalm:
		for range st.A {
			m.round()
		}
	case impl.StFlow:
		for range st.A {
			m.unit()
			if !m.packet(stDeliver(0)) {
				return
			}
		}
	case impl.StDeliver, impl.StRepeat, impl.StDrop, impl.StSpoil:
		m.unit()
		m.packet(st)
	default:
		m.unit()
		m.single(st)
	}
}

func (m *modelRunning) single(st impl.Step) {
	switch st.Kind {
	case impl.StCrash:
		m.server(st.A, evCrash)
	case impl.StTear:
		m.server(st.A, evTear(st.B))
	case impl.StStart:
		m.server(st.A, evStart)
	case impl.StWall:
		m.bag = impl.BagWall(m.bag, st.A, 1)
	case impl.StOpen:
		m.bag = impl.BagWall(m.bag, st.A, 0)
	case impl.StAsk:
		m.client(st.A, askOf(st.Cmd))
	case impl.StPoke:
		m.client(st.A, poke)
	}
}

// packet tells whether there was one.
func (m *modelRunning) packet(st impl.Step) bool {
	keep := 0
	if st.Kind == impl.StRepeat {
		keep = 1
	}
	a := impl.BagTake(m.bag, st.A, keep)
	m.bag = a.Bag
	if a.Code != 0 {
		return false
	}
	bytes := a.Packet.Bytes
	if st.Kind == impl.StSpoil {
		bytes = impl.Spoil(bytes, st.B, st.C)
	}
	if st.Kind != impl.StDrop && a.Lost == 0 {
		m.deliver(a.Packet.From, a.Packet.To, bytes)
	}
	return true
}

func (m *modelRunning) deliver(from, to int, bytes []byte) {
	if to <= 7 {
		m.server(to, evBytes(from, bytes))
		return
	}
	if a := impl.DecodeReply(bytes); a.Code == 0 {
		m.client(to-10, replyOf(a.Reply))
	} else {
		m.report.Refused++
	}
}

func (m *modelRunning) put(from, to int, bytes []byte) {
	m.bag = impl.BagPut(m.bag, from, to, bytes).Bag
}

func (m *modelRunning) server(id int, ev impl.ServerEvent) {
	s := m.servers[id-1]
	led := s.up && s.node.Role == impl.RoleLeader
	out := s.happen(ev)
	for _, x := range out.Sends {
		m.put(id, x.To, x.Bytes)
	}
	if out.Code == 2 {
		m.report.Refused++
	}
	if out.Code == 3 {
		m.report.Full++
	}
	for place := out.From + 1; place <= out.To; place++ {
		m.fact(impl.Fact{Index: place, At: s.node.Term, Server: id, Entry: s.node.Log[place-1]})
	}
	if s.up && s.node.Role == impl.RoleLeader && !led {
		m.report.Leads = append(m.report.Leads, impl.Lead{Term: s.node.Term, Server: id, Log: append([]impl.Entry(nil), s.node.Log...)})
	}
}

func (m *modelRunning) fact(f impl.Fact) {
	for _, g := range m.report.Facts {
		if g.Index == f.Index && g.Entry == f.Entry {
			return
		}
	}
	m.report.Facts = append(m.report.Facts, f)
	c := f.Entry.Cmd
	if c == (impl.Cmd{}) {
		return
	}
	for _, d := range m.report.Order {
		if d.Client == c.Client && d.Seq == c.Seq {
			return
		}
	}
	m.report.Order = append(m.report.Order, c)
}

func (m *modelRunning) client(id int, ev impl.ClientEvent) {
	before := m.clients[id-1]
	a := impl.StepClient(before, ev)
	m.clients[id-1] = a.Client
	if a.Send > 0 {
		m.put(10+id, a.Send, impl.EncodeCall(a.Client.Cmd))
	}
	if ev.Kind == impl.AskEvent && a.Code == 0 {
		m.report.Events = append(m.report.Events, impl.Event{Kind: impl.EventAsk, Cmd: a.Client.Cmd})
	}
	if a.Done == 1 {
		m.report.Events = append(m.report.Events, impl.Event{Kind: impl.EventReply, Cmd: before.Cmd, Code: ev.Reply.Code, Val: ev.Reply.Val})
	}
}

func (m *modelRunning) round() {
	number := m.rounds
	m.rounds++
	for _, s := range m.servers {
		s.calm, s.slot = true, impl.SlotDraw(m.su.Elect, m.su.Servers, s.id, number)
	}
	end := m.bag.Next
	for len(m.bag.Packets) > 0 && m.bag.Packets[0].Id < end {
		m.unit()
		m.packet(stDeliver(0))
	}
	for id := range m.servers {
		m.unit()
		m.server(id+1, evTick)
	}
	for id := range m.clients {
		m.unit()
		m.client(id+1, poke)
	}
	for _, s := range m.servers {
		s.calm = false
	}
}

func (m *modelRunning) told() impl.Report {
	m.report.Drawn, m.report.Packets, m.report.Clients = m.feed.drawn, len(m.bag.Packets), m.clients
	for _, s := range m.servers {
		m.report.Servers = append(m.report.Servers, s.view())
	}
	return m.report
}

// modelTell is a script's text, for any script: also one that TellScript does not tell.
func modelTell(sc impl.Script) string {
	su := sc.Setup
	out := fmt.Sprintf("cluster %d %d %d %d %d %d\ndraws", su.Servers, su.Clients, su.Elect, su.Beat, su.Retry, su.Disk)
	for _, d := range sc.Draws {
		out += fmt.Sprintf(" %d", d)
	}
	lines := []string{out}
	for _, st := range sc.Steps {
		lines = append(lines, modelLine(st))
	}
	return strings.Join(lines, "\n") + "\n"
}

func modelLine(st impl.Step) string {
	c := st.Cmd
	switch st.Kind {
	case impl.StTick:
		return fmt.Sprintf("tick %d %d", st.A, st.B)
	case impl.StSpoil:
		return fmt.Sprintf("spoil %d %d %d", st.A, st.B, st.C)
	case impl.StTear:
		return fmt.Sprintf("tear %d %d", st.A, st.B)
	case impl.StAsk:
		return fmt.Sprintf("ask %d ", st.A) + []string{"", "get " + c.Key, "put " + c.Key + " " + c.Val, "del " + c.Key, "cas " + c.Key + " " + c.Old + " " + c.Val}[c.Op]
	}
	words := map[int]string{
		impl.StDeliver: "deliver", impl.StRepeat: "repeat", impl.StDrop: "drop", impl.StCrash: "crash", impl.StStart: "start",
		impl.StWall: "wall", impl.StOpen: "open", impl.StPoke: "poke", impl.StCalm: "calm", impl.StFlow: "flow",
	}
	return fmt.Sprintf("%s %d", words[st.Kind], st.A)
}

// modelText is a report as RunText tells it.
func modelText(r impl.Report) string {
	var b strings.Builder
	fmt.Fprintf(&b, "run %d %d %d %d %d %d %d\n", r.Code, r.Used, r.Done, r.Drawn, r.Refused, r.Full, r.Packets)
	for _, ev := range r.Events {
		c := ev.Cmd
		if ev.Kind == impl.EventAsk {
			fmt.Fprintf(&b, "asked %d %d %d =%s =%s =%s\n", c.Client, c.Seq, c.Op, c.Key, c.Val, c.Old)
		} else {
			fmt.Fprintf(&b, "replied %d %d %d =%s\n", c.Client, c.Seq, ev.Code, ev.Val)
		}
	}
	for _, f := range r.Facts {
		fmt.Fprintf(&b, "fact %d %d %d %d %d %d\n", f.Index, f.At, f.Server, f.Entry.Term, f.Entry.Cmd.Client, f.Entry.Cmd.Seq)
	}
	for _, l := range r.Leads {
		fmt.Fprintf(&b, "lead %d %d %d\n", l.Term, l.Server, len(l.Log))
	}
	for _, v := range r.Servers {
		fmt.Fprintf(&b, "server %d %d %d %d %d %d %d %d %d %d\n", v.Id, v.Up, v.Role, v.Term, v.Vote, v.Leader, v.Commit, v.Applied, len(v.Log), len(v.Disk.Data))
		for _, p := range v.Table.Pairs {
			fmt.Fprintf(&b, "pair =%s =%s\n", p.Key, p.Val)
		}
		for _, s := range v.Table.Sessions {
			fmt.Fprintf(&b, "session %d %d %d =%s\n", s.Client, s.Seq, s.Code, s.Val)
		}
	}
	for _, c := range r.Clients {
		fmt.Fprintf(&b, "client %d %d %d %d %d\n", c.Id, c.Seq, c.Busy, c.Target, c.Wait)
	}
	return b.String()
}
