package tests

import (
	"math/rand"
	"slices"

	"loop.example/s01586/impl"
)

// Drawn runs of a server: the events are near to what the server is about at that time, so that every rule has its turn.

func drawSetup(random *rand.Rand) impl.Setup {
	su := impl.Setup{Servers: sizes[random.Intn(3)], Clients: 3, Elect: 2 + random.Intn(5), Retry: 1, Disk: impl.MaxDisk}
	su.Beat = 1 + random.Intn(su.Elect)
	if oneIn(random, 3) {
		su.Disk = random.Intn(400)
	}
	return su
}

// drawEvents gives the events of one run.
func drawEvents(random *rand.Rand, su impl.Setup, id int, draws []int, count int) []impl.ServerEvent {
	m := newModelServer(su, id, &modelDraws{draws: draws})
	var events []impl.ServerEvent
	for range count {
		ev := drawEvent(random, m)
		m.happen(ev)
		events = append(events, ev)
	}
	return events
}

func drawEvent(random *rand.Rand, m *modelServer) impl.ServerEvent {
	if !m.up && random.Intn(3) > 0 {
		return evStart
	}
	switch n := random.Intn(100); {
	case n < 25 || !m.up && n < 50:
		return evTick
	case n < 28:
		return evCrash
	case n < 33:
		return evTear(random.Intn(80) - 5)
	case n < 35:
		return evStart
	case n < 38 || !m.up:
		return drawRefused(random, m)
	case n < 58:
		return evCall(drawCall(random, m))
	case n < 80:
		return drawHelp(random, m)
	}
	return drawPacket(random, m)
}

// drawPacket: any message. Where it is ill-formed its bytes are those of no frame.
func drawPacket(random *rand.Rand, m *modelServer) impl.ServerEvent {
	x := drawMsg(random, m.node)
	return evBytes(x.From, impl.EncodeMsg(x))
}

// drawHelp: what the server waits for, so that it comes to lead and to have its entries agreed.
func drawHelp(random *rand.Rand, m *modelServer) impl.ServerEvent {
	others := othersOf(impl.Node{Id: m.id, Size: m.su.Servers})
	x := impl.Msg{From: others[random.Intn(len(others))], To: m.id, Term: m.node.Term, Ok: 1}
	switch m.node.Role {
	case impl.RoleAsking:
		x.Kind, x.Term = impl.KindPreReply, m.node.Term+1
	case impl.RoleCandidate:
		x.Kind = impl.KindVoteReply
	case impl.RoleLeader:
		x.Kind, x.LogIndex = impl.KindAppendReply, max(0, len(m.node.Log)-random.Intn(3))
	default:
		if oneIn(random, 3) {
			return evMsg(drawEntries(random, m.node, x))
		}
		return evTick
	}
	return evMsg(x)
}

// drawEntries: entries of the sender's term that join a follower's log, at its end or in place of what is not agreed.
func drawEntries(random *rand.Rand, n impl.Node, x impl.Msg) impl.Msg {
	x.Kind, x.Term, x.Ok = impl.KindAppend, max(1, n.Term+random.Intn(2)), 0
	x.LogIndex = max(n.Commit, len(n.Log)-random.Intn(3))
	if x.LogIndex > 0 {
		x.LogTerm = n.Log[x.LogIndex-1].Term
	}
	for i := range random.Intn(4) {
		x.Entries = append(x.Entries, impl.Entry{Term: x.Term, Cmd: otherRest(random, impl.Cmd{Client: 1 + random.Intn(3), Seq: 1 + i})})
	}
	x.Commit = x.LogIndex + random.Intn(3)
	return x
}

// drawCall: a command around the client's last one, often one that stands in the log.
func drawCall(random *rand.Rand, m *modelServer) impl.Cmd {
	c := otherRest(random, impl.Cmd{Client: 1 + random.Intn(3), Seq: 1})
	for _, s := range m.table.Sessions {
		if s.Client == c.Client {
			c.Seq = max(1, s.Seq+random.Intn(4)-1)
		}
	}
	if n := len(m.node.Log); n > 0 && oneIn(random, 4) {
		if e := m.node.Log[n-1]; e.Cmd.Op != impl.OpNone {
			c.Client, c.Seq = e.Cmd.Client, e.Cmd.Seq
		}
	}
	return c
}

// drawRefused: mostly bytes of no frame, of a frame from or to another, or a reply.
func drawRefused(random *rand.Rand, m *modelServer) impl.ServerEvent {
	good := impl.EncodeMsg(impl.Msg{Kind: impl.KindPreAsk, From: 1 + m.id%m.su.Servers, To: m.id, Term: 1})
	switch random.Intn(5) {
	case 0:
		return evBytes(1+m.id%m.su.Servers, impl.Spoil(good, random.Intn(100), random.Intn(255)))
	case 1:
		return evBytes(random.Intn(20)-1, good)
	case 2:
		return evBytes(random.Intn(20)-1, impl.EncodeCall(putOf(1+random.Intn(8), 1, "k", "")))
	case 3:
		return evBytes(11, impl.EncodeReply(impl.Reply{Client: 1, Seq: 1, Status: impl.StatusRedirect}))
	}
	return evBytes(11, slices.Repeat([]byte{7}, random.Intn(12)))
}

func drawDraws(random *rand.Rand) []int {
	var out []int
	for range random.Intn(12) {
		out = append(out, random.Intn(2000)-1000)
	}
	return out
}
