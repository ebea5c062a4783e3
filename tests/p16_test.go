package tests

import (
	"math/rand"
	"slices"
	"testing"

	"loop.example/s01586/impl"
)

// Promise 16: a settled leader is not moved by what happens to servers outside of its majority.

// settle gives the steps that start and open the servers of the majority; one that may be set to tear is crashed ahead of that.
func settle(steps []impl.Step, majority []int) []impl.Step {
	var out []impl.Step
	for _, id := range majority {
		tears := func(st impl.Step) bool { return st.Kind == impl.StTear && st.A == id }
		if slices.ContainsFunc(steps, tears) {
			out = append(out, stCrash(id))
		}
		out = append(out, stStart(id), stOpen(id))
	}
	return out
}

// drawMajority gives just a majority of the servers, or more of them, and the others.
func drawMajority(random *rand.Rand, servers int) ([]int, []int) {
	var ids []int
	for _, i := range random.Perm(servers) {
		ids = append(ids, i+1)
	}
	n := servers/2 + 1
	if oneIn(random, 3) {
		n += random.Intn(servers - n + 1)
	}
	return ids[:n], ids[n:]
}

// settled gives the leader of a run that ended in calm as the promise asks for it, 0 if there is none.
func settled(sc impl.Script, majority []int) int {
	m := modelPlay(sc)
	term, leader := 0, 0
	for _, s := range m.servers {
		v := s.view()
		if v.Term > term {
			term, leader = v.Term, 0
		}
		if v.Term == term && v.Role == impl.RoleLeader {
			leader = v.Id
		}
	}
	for _, p := range m.bag.Packets {
		if x := impl.DecodeMsg(p.Bytes); x.Code == 0 && x.Msg.Term > term {
			return 0
		}
	}
	early := cloneScript(sc)
	early.Steps[len(early.Steps)-1].A -= 3 * sc.Setup.Elect
	if !slices.Contains(majority, leader) || len(impl.RunCluster(early).Leads) != len(m.report.Leads) {
		return 0
	}
	return leader
}

// drawTrouble: up to 40 times something happens to one of the others, with calm rounds between.
func drawTrouble(random *rand.Rand, others []int) []impl.Step {
	var steps []impl.Step
	for range random.Intn(41) {
		id := others[random.Intn(len(others))]
		kinds := []impl.Step{stCrash(id), stStart(id), stStart(id), stWall(id), stOpen(id), stOpen(id), stTick(id, 1+random.Intn(100)), stTick(id, 100)}
		steps = append(steps, kinds[random.Intn(len(kinds))])
		if random.Intn(3) > 0 {
			steps = append(steps, stCalm(1+random.Intn(30)))
		}
	}
	return append(steps, stCalm(20))
}

func wantUnmoved(t *testing.T, sc impl.Script, leader int, trouble []impl.Step) {
	t.Helper()
	before := impl.RunCluster(sc)
	sc.Steps = slices.Concat(sc.Steps, trouble)
	after := impl.RunCluster(sc)
	if len(after.Leads) != len(before.Leads) || after.Servers[leader-1].Term != before.Servers[leader-1].Term {
		t.Fatalf("server %d led in term %d; behind it the leads are %v: %s", leader, before.Servers[leader-1].Term, after.Leads, modelTell(sc))
	}
}

func TestP16DrawnTrouble(t *testing.T) {
	random := rand.New(rand.NewSource(716))
	found := 0
	for range 500 {
		su := drawTimed(random)
		steps := drawRoughs(random, su, random.Intn(40))
		majority, others := drawMajority(random, su.Servers)
		if len(others) == 0 {
			continue
		}
		sc := scriptOf(su, drawUsableDraws(random), slices.Concat(steps, settle(steps, majority), []impl.Step{stCalm(7*su.Elect + random.Intn(20))})...)
		if leader := settled(sc, majority); leader > 0 {
			found++
			wantUnmoved(t, sc, leader, drawTrouble(random, others))
		}
	}
	if found < 200 {
		t.Errorf("only %d settled leaders", found)
	}
}

// One that was walled off, and grew impatient again and again, comes back; so does one that has lost its log's end and one that was down all the time.
func TestP16ComesBack(t *testing.T) {
	for _, size := range []int{3, 5} {
		su := impl.Setup{Servers: size, Clients: 1, Elect: 8 * size, Beat: 2 * size, Retry: 10, Disk: impl.MaxDisk}
		for out := 2; out <= size; out++ {
			ahead := []impl.Step{stTick(1, 16*size), stFlow(100), stPut(1, "a", "b"), stCalm(10 * size)}
			ahead = append(ahead, stWall(out), stPut(1, "a", "c"), stCalm(4*su.Elect))
			sc := scriptOf(su, nil, ahead...)
			majority := othersOf(impl.Node{Id: out, Size: size})
			if leader := settled(sc, majority); leader != 1 {
				t.Fatalf("server %d leads", leader)
			}
			for _, trouble := range [][]impl.Step{
				{stTick(out, 100), stTick(out, 100), stOpen(out), stCalm(1), stTick(out, 100), stCalm(30)},
				{stCrash(out), stCalm(50), stStart(out), stOpen(out), stTick(out, 100), stCalm(1), stTick(out, 100), stCalm(40)},
				slices.Repeat([]impl.Step{stOpen(out), stTick(out, 100), stCalm(2), stWall(out), stTick(out, 100), stCalm(3)}, 10),
				slices.Repeat([]impl.Step{stOpen(out), stCrash(out), stStart(out), stTick(out, 100), stCalm(1)}, 10),
			} {
				wantUnmoved(t, sc, 1, trouble)
			}
		}
	}
}
