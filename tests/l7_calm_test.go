package tests

import (
	"slices"
	"testing"

	"loop.example/s01586/impl"
)

// alone: only server id is up, and nothing answers it: what it asks is on the way for one round.
func alone(id int, more ...impl.Step) []impl.Step {
	var out []impl.Step
	for other := 1; other <= 3; other++ {
		if other != id {
			out = append(out, stCrash(other))
		}
	}
	return append(out, more...)
}

// The timers that calm rounds set, by hand: server i, impatient in round r, waits 10 + ((i - 1) * 3 - r) mod 10 ticks.
func TestCalmTimers(t *testing.T) {
	su := impl.Setup{Servers: 3, Clients: 1, Elect: 10, Beat: 3, Retry: 5, Disk: 1000}
	for id, asks := range map[int][]int{1: {10, 21, 31, 41, 51}, 2: {10, 24, 34, 44, 54}, 3: {10, 27, 37, 47}} {
		for n := 1; n < 55; n++ {
			want := 0
			if slices.Contains(asks, n) {
				want = 2
			}
			ways := [][]impl.Step{{stCalm(n)}, slices.Repeat([]impl.Step{stCalm(1)}, n)}
			if n > 1 {
				ways = append(ways, []impl.Step{stCalm(n / 2), stCalm(n - n/2)})
			}
			for _, calm := range ways {
				r := play(t, scriptOf(su, nil, alone(id, calm...)...))
				if r.Packets != want || r.Drawn != 3 {
					t.Errorf("server %d, %d rounds in %d steps: %d packets, %d draws", id, n, len(calm), r.Packets, r.Drawn)
				}
			}
		}
	}
}

// The rounds of all calm steps are counted together, whatever stands between them.
func TestCalmRoundsAreCountedTogether(t *testing.T) {
	su := impl.Setup{Servers: 3, Clients: 2, Elect: 10, Beat: 3, Retry: 5, Disk: impl.MaxDisk}
	for n := 2; n < 60; n += 3 {
		for k := 1; k < n; k += 5 {
			ask := []impl.Step{stPut(1, "a", "b"), stGet(2, "a")}
			whole := play(t, scriptOf(su, nil, append(ask, stCalm(n))...))
			parts := play(t, scriptOf(su, nil, append(ask, stCalm(k), stOpen(1), stCalm(n-k))...))
			if parts.Used != whole.Used+1 || parts.Done != whole.Done+2 {
				t.Errorf("%d and %d rounds: %v, and %v", k, n-k, reportNumbers(parts), reportNumbers(whole))
			}
			parts.Used, parts.Done = whole.Used, whole.Done
			wantReport(t, "in parts", parts, whole)
		}
	}
}

// A calm round leaves the feed alone, and behind the last one it is looked at again.
func TestCalmLeavesTheFeed(t *testing.T) {
	su := impl.Setup{Servers: 3, Clients: 1, Elect: 10, Beat: 3, Retry: 5, Disk: 1000}
	draws := []int{0, 0, 0, 7, 2}
	// asked in round 9 and again at tick 21, which is not calm: the timer is set by the draw 7
	for _, c := range []struct{ ticks, packets, drawn int }{{10, 2, 3}, {11, 4, 4}, {27, 4, 4}, {28, 6, 5}, {39, 6, 5}, {40, 8, 6}} {
		r := play(t, scriptOf(su, draws, alone(1, stCalm(10), stTick(1, c.ticks))...))
		if r.Packets != c.packets || r.Drawn != c.drawn {
			t.Errorf("%d ticks: %d packets and %d draws, not %d and %d", c.ticks, r.Packets, r.Drawn, c.packets, c.drawn)
		}
	}
	r := play(t, scriptOf(su, draws, alone(1, stCalm(10), stCrash(1), stStart(1), stCalm(17))...))
	if r.Packets != 2 || r.Drawn != 4 {
		t.Errorf("started between calm rounds: %d packets, %d draws", r.Packets, r.Drawn)
	}
}

// What is sent during a round is delivered in the next one.
func TestCalmDeliversWhatWasThere(t *testing.T) {
	su := quick(1)
	ask := []impl.Step{stGet(1, "a")}
	r := play(t, scriptOf(su, quickDraws, append(ask, stCalm(1))...))
	if c := r.Clients[0]; c.Target != 1 || c.Wait != 1 || r.Packets != 1 || r.Used != 1+1+4 {
		t.Errorf("behind one round: %+v, %v", c, reportNumbers(r))
	}
	// the redirection knows of no leader: the next server is the target, and nothing is sent
	r = play(t, scriptOf(su, quickDraws, append(ask, stCalm(2))...))
	if c := r.Clients[0]; c.Target != 2 || c.Wait != 2 || r.Packets != 0 || r.Used != 1+5+5 {
		t.Errorf("behind two rounds: %+v, %v", c, reportNumbers(r))
	}
	// an election by rounds: the asks go out in the fourth, then grants, vote asks, votes, entries, one round each; with the answers to these goes a heartbeat
	for rounds, want := range map[int]string{
		3: "0 0 0", 4: "2 1 0", 5: "2 1 0", 6: "2 2 1", 7: "2 2 1", 8: "2 3 1", 9: "4 3 1",
	} {
		r := play(t, scriptOf(su, quickDraws, stCalm(rounds)))
		v := r.Servers[0]
		if got := told([]int{r.Packets, v.Role, v.Term}); got != "["+want+"]" {
			t.Errorf("%d rounds: packets, role and term are %s, not %s", rounds, got, want)
		}
	}
}

// In a round the packets come first, then the ticks, then the pokes.
func TestCalmOrder(t *testing.T) {
	su := quick(1)
	// entries are on the way to server 2, whose next tick would make it impatient
	near := led(stTick(2, 3), stTick(1, 2))
	r := play(t, scriptOf(su, quickDraws, append(near, stCalm(1))...))
	if r.Packets != 2 || r.Servers[1].Role != impl.RoleFollower || r.Servers[1].Leader != 1 {
		t.Errorf("packets ahead of ticks: %s", told(r))
	}
	r = play(t, scriptOf(su, quickDraws, append(near, stDrop(0), stCalm(1))...))
	if r.Servers[1].Role != impl.RoleAsking {
		t.Errorf("the packet lost: %s", told(r))
	}
	// servers 1 and 2 ask and both clients try again in one round: on the way are 1 to 2, 1 to 3, 2 to 1, 2 to 3, and the clients' calls to 2 and 3
	su = quick(2)
	su.Retry = 4
	busy := []impl.Step{stGet(1, "a"), stGet(2, "a"), stDrop(0), stDrop(0), stCalm(4)}
	for at, want := range [][4]int{{1, 0, 2, 3}, {1, 0, 2, 3}, {0, 1, 2, 3}, {0, 1, 2, 3}, {0, 0, 3, 3}, {0, 0, 2, 1}} {
		// only this one is left; its answer comes back
		steps := slices.Concat(busy, slices.Repeat([]impl.Step{stDrop(0)}, at), slices.Repeat([]impl.Step{stDrop(1)}, 5-at), []impl.Step{stFlow(2)})
		r := play(t, scriptOf(su, []int{0, 0, 3}, steps...))
		got := [4]int{r.Servers[0].Term, r.Servers[1].Term, r.Clients[0].Target, r.Clients[1].Target}
		if got != want {
			t.Errorf("packet %d: terms and targets are %v, not %v", at, got, want)
		}
	}
}

// A round that the fuel ends: what is left of it does not happen.
func TestCalmOutOfFuel(t *testing.T) {
	su := quick(2)
	// Both clients are busy. Server 1 has asked; server 2, which is to grant, asks itself at its next tick. Server 3 is down.
	ahead := []impl.Step{stPut(1, "a", "b"), stPut(2, "a", "b"), stDrop(0), stDrop(0), stTick(1, 4), stTick(2, 6)}
	used := 2 + 2 + 4 + 6
	// for each number of units left: the packets, server 2's role, and how long the clients wait
	for fuel, want := range [][4]int{{2, 0, 0, 0}, {2, 0, 0, 0}, {1, 0, 0, 0}, {1, 0, 0, 0}, {3, 1, 0, 0}, {3, 1, 0, 0}, {3, 1, 1, 0}, {3, 1, 1, 1}} {
		steps := slices.Concat(ahead, burn(60000-fuel-used), []impl.Step{stCalm(2)})
		r := play(t, scriptOf(su, quickDraws, steps...))
		got := [4]int{r.Packets, r.Servers[1].Role, r.Clients[0].Wait, r.Clients[1].Wait}
		if got != want || r.Code != 2 || r.Used != 60000 || r.Done != len(steps)-1 {
			t.Errorf("fuel for %d units: packets, role and waits are %v, not %v; %v", fuel, got, want, reportNumbers(r))
		}
	}
}

// A calm round over a full bag: each packet makes room for just one other when it is taken out.
func TestCalmWithAFullBag(t *testing.T) {
	// on the way: two grants for server 1, and 2047 times two asks of server 3
	full := []impl.Step{stTick(1, 4), stFlow(2), stTick(3, 7+4*2046)}
	r := impl.RunCluster(scriptOf(quick(1), quickDraws, full...))
	if r.Packets != 4096 {
		t.Fatalf("the test's bag has %d packets", r.Packets)
	}
	// the first grant makes server 1 ask for votes: one of the two has no room, and nothing comes of the second grant
	r = impl.RunCluster(scriptOf(quick(1), quickDraws, append(full, stCalm(1))...))
	if r.Packets != 4095 || r.Servers[0].Role != impl.RoleCandidate || r.Used != 4+2+8191+4096+4 {
		t.Errorf("%v, %s", reportNumbers(r), told(r.Servers[0]))
	}
}
