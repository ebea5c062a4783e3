package tests

import (
	"math/rand"
	"slices"
	"testing"

	"loop.example/s01586/impl"
)

// Promise 15: in calm times, with a majority up and open, every client has its reply within WindowBound rounds.

func longestLog(r impl.Report) int {
	longest := 0
	for _, v := range r.Servers {
		longest = max(longest, len(v.Log))
	}
	return longest
}

func busyClients(r impl.Report) int {
	busy := 0
	for _, c := range r.Clients {
		busy += c.Busy
	}
	return busy
}

// shutOut crashes the others or walls them off.
func shutOut(random *rand.Rand, others []int) []impl.Step {
	var out []impl.Step
	for _, id := range others {
		if oneIn(random, 2) {
			out = append(out, stCrash(id))
		} else {
			out = append(out, stWall(id))
		}
	}
	return out
}

// wantAllReplied mends the cluster as the promise says, lets the calm rounds follow, and tells how many clients were busy ahead of them.
func wantAllReplied(t *testing.T, random *rand.Rand, sc impl.Script, majority, others []int) int {
	t.Helper()
	before := impl.RunCluster(sc)
	bound := impl.WindowBound(sc.Setup, longestLog(before), len(others))
	if bound == 0 || before.Code != 0 {
		t.Fatalf("bound %d, code %d", bound, before.Code)
	}
	sc.Steps = slices.Concat(sc.Steps, settle(sc.Steps, majority), shutOut(random, others), []impl.Step{stCalm(bound)})
	after := impl.RunCluster(sc)
	if after.Code == 0 && busyClients(after) > 0 {
		t.Fatalf("a client is still busy behind %d rounds: %+v: %s", bound, after.Clients, modelTell(sc))
	}
	if after.Code != 0 {
		return 0
	}
	return busyClients(before)
}

func TestP15DrawnScripts(t *testing.T) {
	random := rand.New(rand.NewSource(718))
	busy := 0
	for range 300 {
		su := drawTimed(random)
		majority, others := drawMajority(random, su.Servers)
		sc := scriptOf(su, drawUsableDraws(random), drawRoughs(random, su, random.Intn(61))...)
		busy += wantAllReplied(t, random, sc, majority, others)
	}
	if busy < 300 {
		t.Errorf("only %d busy clients", busy)
	}
}

// As many rough steps as may be, of the greatest sizes, and all clients busy at the end.
func TestP15RoughestScripts(t *testing.T) {
	random := rand.New(rand.NewSource(719))
	busy := 0
	for range 120 {
		su := drawTimed(random)
		su.Clients = 4
		majority, others := drawMajority(random, su.Servers)
		steps := drawRoughs(random, su, 56)
		for i := range steps {
			switch steps[i].Kind {
			case impl.StTick:
				steps[i].B = 100
			case impl.StFlow:
				steps[i].A = 1 + random.Intn(100)
			}
		}
		for c := range 4 {
			steps = append(steps, stAsk(c+1, drawAsk(random)))
		}
		busy += wantAllReplied(t, random, scriptOf(su, drawUsableDraws(random), steps...), majority, others)
	}
	if busy < 400 {
		t.Errorf("only %d busy clients", busy)
	}
}

// The leader is the one that is lost, with what only it has; the clients know of no other.
func TestP15LostLeader(t *testing.T) {
	random := rand.New(rand.NewSource(720))
	for _, size := range []int{3, 5} {
		for lost := 1; lost <= size; lost++ {
			su := impl.Setup{Servers: size, Clients: 3, Elect: 8 * size, Beat: 2 * size, Retry: 30, Disk: impl.MaxDisk}
			steps := []impl.Step{stTick(lost, 16*size), stFlow(100), stTick(lost, 1), stPut(1, "a", "b"), stPut(2, "a", "c"), stGet(3, "a"), stFlow(3), stWall(lost)}
			if r := impl.RunCluster(scriptOf(su, nil, steps...)); r.Servers[lost-1].Role != impl.RoleLeader || busyClients(r) != 3 {
				t.Fatalf("server %d does not lead: %s", lost, told(r.Servers))
			}
			majority := othersOf(impl.Node{Id: lost, Size: size})
			wantAllReplied(t, random, scriptOf(su, nil, steps...), majority, []int{lost})
			wantAllReplied(t, random, scriptOf(su, nil, append(steps, stCrash(lost))...), majority[size/2-1:], append([]int{lost}, majority[:size/2-1]...))
		}
	}
}

// The command is carried out, but its reply is lost: by a drop, spoilt, or to a wall.
func TestP15LostReply(t *testing.T) {
	random := rand.New(rand.NewSource(730))
	for _, size := range []int{3, 5} {
		su := impl.Setup{Servers: size, Clients: 1, Elect: 8 * size, Beat: 2 * size, Retry: 30, Disk: impl.MaxDisk}
		// the call, its entries and the answers of a majority have come: the reply stands behind the other answers
		steps := []impl.Step{stTick(1, 16*size), stFlow(100), stPut(1, "a", "b"), stFlow(size + size/2)}
		servers := []int{1, 2, 3, 4, 5}[:size]
		for _, lose := range [][]impl.Step{{stDrop(size / 2)}, {stSpoil(size/2, 1, 1)}, {stWall(1)}} {
			lost := append(slices.Clone(steps), append(lose, stFlow(100))...)
			if r := impl.RunCluster(scriptOf(su, nil, lost...)); len(r.Order) != 1 || busyClients(r) != 1 {
				t.Fatalf("%q, %+v", toldFacts(r.Facts), r.Clients)
			}
			wantAllReplied(t, random, scriptOf(su, nil, lost...), servers, nil)
			wantAllReplied(t, random, scriptOf(su, nil, lost...), servers[:size/2+1], servers[size/2+1:])
		}
	}
}
