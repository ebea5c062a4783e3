package tests

import (
	"math/rand"
	"slices"
	"testing"

	"loop.example/s01586/impl"
)

// Promise 7: a step leads from a well-formed node to a well-formed node, and takes back neither a term, nor a vote, nor what is agreed, nor what a leader has put into its log.

func goodMsg(n impl.Node, m impl.Msg) bool {
	return impl.MsgFault(m) == 0 && m.From == n.Id && m.To != n.Id && m.To <= n.Size
}

func checkStep(t *testing.T, n impl.Node, in impl.Input, a impl.StepAnswer) {
	t.Helper()
	now := a.Node
	wrong := ""
	switch {
	case impl.NodeFault(now) != 0:
		wrong = "the node is ill-formed"
	case now.Term < n.Term || now.Commit < n.Commit:
		wrong = "term or commit fell"
	case !slices.Equal(now.Log[:n.Commit], n.Log[:n.Commit]):
		wrong = "an agreed entry changed"
	case now.Term == n.Term && n.Vote != 0 && now.Vote != n.Vote:
		wrong = "a vote changed"
	case n.Role == impl.RoleLeader && now.Role == impl.RoleLeader && (now.Term != n.Term || !startsWith(now.Log, n.Log)):
		wrong = "a leader's log shrank"
	case now.Id != n.Id || now.Size != n.Size || now.Elect != n.Elect || now.Beat != n.Beat:
		wrong = "the node is another"
	case a.Drew == 0 && now.Deadline != n.Deadline, a.Drew == 1 && now.Deadline != now.Now+impl.TimeoutOf(n.Elect, in.Draw):
		wrong = "the timer is off"
	}
	for _, m := range a.Out {
		if !goodMsg(n, m) {
			wrong = "a message is ill-formed or goes astray"
		}
	}
	if wrong != "" {
		t.Fatalf("%s: from\n%s by\n%s to\n%s", wrong, told(n), told(in), told(a))
	}
}

// stepAll takes the inputs that draw gives, one after another, and holds every step against the promise and against the model.
func stepAll(t *testing.T, n impl.Node, steps int, draw func(impl.Node) impl.Input) map[[3]int]int {
	t.Helper()
	seen := map[[3]int]int{}
	for range steps {
		in := draw(n)
		a := impl.StepNode(n, in)
		checkStep(t, n, in, a)
		want := modelStep(n, in)
		if a.Code != want.Code || a.Drew != want.Drew || !sameNode(a.Node, want.Node) || !sameMsgs(a.Out, want.Out) {
			t.Fatalf("from\n%s by\n%s to\n%s, not\n%s", told(n), told(in), told(a), told(want))
		}
		seen[[3]int{a.Code, n.Role, a.Node.Role}]++
		n = a.Node
	}
	return seen
}

func TestP7DrawnRuns(t *testing.T) {
	random := rand.New(rand.NewSource(7))
	seen := map[[3]int]int{}
	for range 6000 {
		n := drawNode(random)
		if f := impl.NodeFault(n); f != 0 {
			t.Fatalf("drawn with fault %d: %s", f, told(n))
		}
		for what, count := range stepAll(t, n, 25, func(n impl.Node) impl.Input { return drawInput(random, n) }) {
			seen[what] += count
		}
	}
	// The runs go everywhere: each code but 5, which needs a full log, and each change of role that there is.
	for _, code := range []int{0, 1, 2, 3, 4, 6, 7, 8} {
		count := 0
		for what, n := range seen {
			if what[0] == code {
				count += n
			}
		}
		if count < 100 {
			t.Errorf("code %d only %d times", code, count)
		}
	}
	for _, turn := range [][2]int{{0, 1}, {1, 0}, {1, 2}, {2, 0}, {2, 1}, {2, 3}, {3, 0}, {0, 0}, {1, 1}, {2, 2}, {3, 3}} {
		if count := seen[[3]int{0, turn[0], turn[1]}]; count < 100 {
			t.Errorf("from role %d to %d only %d times", turn[0], turn[1], count)
		}
	}
}

// Runs near the limits: logs of about MaxLog entries, terms of about MaxTerm, ticks of about MaxNow.
func TestP7RunsAtTheLimits(t *testing.T) {
	random := rand.New(rand.NewSource(8))
	codes := map[int]int{}
	for range 60 {
		n := drawNode(random)
		last := 1
		if len(n.Log) > 0 {
			last = n.Log[len(n.Log)-1].Term
		}
		n.Term = max(n.Term, last)
		n.Log = append(n.Log, longLog(impl.MaxLog-random.Intn(6)-len(n.Log), last)...)
		n.Commit = len(n.Log) - random.Intn(8)
		if n.Role == impl.RoleLeader {
			for _, j := range othersOf(n) {
				n.Next[j-1] = len(n.Log) - random.Intn(40)
				n.Match[j-1] = n.Next[j-1] - 1
			}
		}
		if oneIn(random, 2) {
			n.Term = impl.MaxTerm - random.Intn(3)
		}
		if f := impl.NodeFault(n); f != 0 {
			t.Fatalf("drawn with fault %d: %s", f, told(n))
		}
		for what, count := range stepAll(t, n, 25, func(n impl.Node) impl.Input { return drawInput(random, n) }) {
			codes[what[0]] += count
		}
	}
	if codes[5] < 5 || codes[3] < 5 {
		t.Errorf("the codes were %v", codes)
	}
}

// pack is a whole cluster of nodes with the messages on their way between them.
type pack struct {
	nodes []impl.Node
	way   []impl.Msg
}

func newPack(size int) *pack {
	p := &pack{}
	for id := 1; id <= size; id++ {
		p.nodes = append(p.nodes, impl.NewNode(id, size, 8, 2, impl.Stable{}, id*3))
	}
	return p
}

// next: who steps, and by what. Messages come in any order, some of them twice or never.
func (p *pack) next(random *rand.Rand) (int, impl.Input) {
	at := random.Intn(len(p.nodes))
	draw := random.Intn(1000)
	if len(p.way) == 0 || oneIn(random, 4) {
		if oneIn(random, 3) {
			return at, proposalOf(somePut)
		}
		return at, tickOf(draw)
	}
	i := random.Intn(len(p.way))
	m := p.way[i]
	if random.Intn(12) > 0 {
		p.way = slices.Delete(p.way, i, i+1)
	}
	if oneIn(random, 15) {
		return at, tickOf(draw)
	}
	return m.To - 1, impl.Input{Kind: impl.InMsg, Draw: draw, Msg: m}
}

// trouble loses all that is on its way, starts a node anew from what it has to keep, or lets one tick alone.
func (p *pack) trouble(random *rand.Rand) {
	at := random.Intn(len(p.nodes))
	switch random.Intn(3) {
	case 0:
		p.way = nil
	case 1:
		n := p.nodes[at]
		p.nodes[at] = impl.NewNode(n.Id, n.Size, n.Elect, n.Beat, impl.Stable{Term: n.Term, Vote: n.Vote, Log: n.Log}, random.Intn(1000))
	case 2:
		for range 20 {
			a := impl.StepNode(p.nodes[at], tickOf(random.Intn(1000)))
			p.nodes[at] = a.Node
			p.way = append(p.way, a.Out...)
		}
	}
}

// Nodes that only talk to each other agree: no two lead in one term, and what one holds as agreed no other one holds otherwise.
func TestP7NodesTogether(t *testing.T) {
	random := rand.New(rand.NewSource(11))
	agreed, led := 0, 0
	for _, size := range sizes {
		for range 40 {
			p := newPack(size)
			leaders := map[int]int{}
			var log []impl.Entry
			for range 1500 {
				if oneIn(random, 40) {
					p.trouble(random)
				}
				at, in := p.next(random)
				a := impl.StepNode(p.nodes[at], in)
				checkStep(t, p.nodes[at], in, a)
				p.nodes[at] = a.Node
				p.way = append(p.way, a.Out...)
				if n := a.Node; n.Role == impl.RoleLeader {
					if id := leaders[n.Term]; id != 0 && id != n.Id {
						t.Fatalf("%d and %d lead in term %d", id, n.Id, n.Term)
					}
					leaders[n.Term] = n.Id
				}
				known := min(len(log), a.Node.Commit)
				if !slices.Equal(log[:known], a.Node.Log[:known]) {
					t.Fatalf("agreed: %s, and %s", told(log), told(a.Node))
				}
				log = append(log, a.Node.Log[known:a.Node.Commit]...)
			}
			agreed += len(log)
			led += len(leaders)
		}
	}
	if agreed < 1000 || led < 200 {
		t.Errorf("%d entries agreed, %d leaders", agreed, led)
	}
}
