package tests

import (
	"slices"
	"testing"

	"loop.example/s01586/impl"
)

// quick: with the draws 0 3 3 server 1 is the first to grow impatient, at its tick 4.
func quick(clients int) impl.Setup {
	return impl.Setup{Servers: 3, Clients: clients, Elect: 4, Beat: 2, Retry: 5, Disk: impl.MaxDisk}
}

var quickDraws = []int{0, 3, 3}

// led: server 1 leads in term 1 and its blank entry is agreed; nothing is on the way. 17 units in 2 steps.
func led(more ...impl.Step) []impl.Step {
	return append([]impl.Step{stTick(1, 4), stFlow(100)}, more...)
}

func TestClusterIllFormed(t *testing.T) {
	for _, sc := range illScripts() {
		wantReport(t, told(sc), impl.RunCluster(sc), impl.Report{Code: 1})
	}
}

func TestClusterEdgeSteps(t *testing.T) {
	for _, st := range edgeSteps() {
		r := impl.RunCluster(scriptOf(plainSetup(), nil, st))
		// so many calm rounds, with their heartbeats, need more than the fuel
		if spent := st == stCalm(10000); spent != (r.Code == 2) || spent != (r.Done == 0) {
			t.Errorf("%+v: code %d, done %d", st, r.Code, r.Done)
		}
	}
	if r := play(t, scriptOf(plainSetup(), make([]int, 4096), slices.Repeat([]impl.Step{stOpen(1)}, 4096)...)); r.Code != 0 || r.Done != 4096 || r.Used != 4096 || r.Drawn != 3 {
		t.Errorf("%v", reportNumbers(r))
	}
}

func TestClusterAtFirst(t *testing.T) {
	for _, size := range sizes {
		su := impl.Setup{Servers: size, Clients: 8, Elect: 4, Beat: 2, Retry: 5, Disk: 77}
		r := play(t, scriptOf(su, []int{1, 2}))
		wantNumbers(t, "no steps", r, 0, 0, 0, size, 0, 0, 0)
		if len(r.Events)+len(r.Facts)+len(r.Order)+len(r.Leads) > 0 || len(r.Servers) != size || len(r.Clients) != 8 {
			t.Fatalf("%s", told(r))
		}
		for i, v := range r.Servers {
			if !sameView(v, impl.ServerView{Id: i + 1, Up: 1, Disk: impl.Disk{Cap: 77}}) {
				t.Errorf("server %d: %s", i+1, told(v))
			}
		}
		for i, c := range r.Clients {
			if c != (impl.Client{Id: i + 1, Servers: size, Retry: 5, Target: i%size + 1}) {
				t.Errorf("client %d: %+v", i+1, c)
			}
		}
	}
}

// The whole of a short run, by hand.
func TestClusterByHand(t *testing.T) {
	r := play(t, scriptOf(quick(2), quickDraws, led(stPut(1, "a", "b"), stFlow(8), stTick(1, 2), stFlow(2))...))
	put := putOf(1, 1, "a", "b")
	log := []impl.Entry{{Term: 1}, {Term: 1, Cmd: put}}
	disk := impl.Disk{Cap: impl.MaxDisk, Data: journal(hard(1, 1), add(1, 1), impl.Record{Kind: impl.RecAdd, Index: 2, Entry: log[1]})}
	disk.Synced = len(disk.Data)
	table := impl.Table{Pairs: pairsOf("a=b"), Sessions: []impl.Session{{Client: 1, Seq: 1, Code: 1}}}
	want := impl.Report{
		Used: 4 + 13 + 1 + 7 + 2 + 2, Done: 6, Drawn: 13, Packets: 2,
		Events: []impl.Event{{Kind: impl.EventAsk, Cmd: put}, {Kind: impl.EventReply, Cmd: put, Code: 1}},
		Facts:  []impl.Fact{{Index: 1, At: 1, Server: 1, Entry: log[0]}, {Index: 2, At: 1, Server: 1, Entry: log[1]}},
		Order:  []impl.Cmd{put},
		Leads:  []impl.Lead{{Term: 1, Server: 1, Log: log[:1]}},
		Servers: []impl.ServerView{
			{Id: 1, Up: 1, Role: 3, Term: 1, Vote: 1, Leader: 1, Commit: 2, Applied: 2, Log: log, Disk: disk, Table: table},
			{Id: 2, Up: 1, Term: 1, Vote: 1, Leader: 1, Commit: 2, Applied: 2, Log: log, Disk: disk, Table: table},
			{Id: 3, Up: 1, Term: 1, Vote: 1, Leader: 1, Commit: 2, Applied: 2, Log: log, Disk: disk, Table: table},
		},
		Clients: []impl.Client{{Id: 1, Servers: 3, Retry: 5, Seq: 1, Target: 1}, {Id: 2, Servers: 3, Retry: 5, Target: 2}},
	}
	wantReport(t, "a put", r, want)
}

func TestClusterUnits(t *testing.T) {
	for _, c := range []struct {
		what  string
		steps []impl.Step
		units int
	}{
		{"a tick", []impl.Step{stTick(2, 1)}, 1},
		{"ticks", []impl.Step{stTick(2, 9)}, 9},
		{"ticks of one that is down", []impl.Step{stCrash(2), stTick(2, 9)}, 10},
		{"an empty bag", []impl.Step{stDeliver(0), stRepeat(3), stDrop(4095), stSpoil(1, 2, 3), stFlow(10000), stFlow(1)}, 6},
		{"single steps", []impl.Step{stWall(1), stOpen(1), stOpen(1), stCrash(1), stCrash(1), stTear(1, 5), stStart(1), stStart(1), stTear(1, 5), stPoke(1)}, 10},
		{"asks, one of them of a busy client", []impl.Step{stPut(1, "a", "b"), stPut(1, "a", "b"), stGet(2, "a"), stPoke(2)}, 4},
		{"a flow that is enough", []impl.Step{stTick(1, 4), stFlow(2)}, 6},
		{"a flow that goes on", []impl.Step{stTick(1, 4), stFlow(12)}, 16},
		{"a flow that ends at an empty bag", []impl.Step{stTick(1, 4), stFlow(13)}, 17},
		{"a flow that would go on", []impl.Step{stTick(1, 4), stFlow(10000)}, 17},
		{"packets taken one by one", []impl.Step{stTick(1, 4), stDeliver(0), stRepeat(0), stRepeat(0), stDrop(0), stSpoil(0, 1, 1), stSpoil(0, 1, 1)}, 10},
		{"packets lost to a wall", []impl.Step{stTick(1, 4), stWall(1), stDeliver(0), stFlow(5)}, 4 + 1 + 1 + 2},
		{"packets to one that is down", []impl.Step{stTick(1, 4), stCrash(2), stCrash(3), stFlow(5)}, 4 + 2 + 3},
		{"a calm round", []impl.Step{stCalm(1)}, 3 + 2},
		{"calm rounds", []impl.Step{stCalm(3)}, 15},
		{"a calm round with packets", []impl.Step{stTick(1, 4), stCalm(1)}, 4 + 2 + 5},
		{"a calm round with packets lost to a wall", []impl.Step{stTick(1, 4), stWall(2), stWall(3), stCalm(2)}, 4 + 2 + 2 + 10},
		{"a calm round with servers that are down", []impl.Step{stCrash(1), stCrash(2), stCrash(3), stCalm(2)}, 3 + 10},
	} {
		r := play(t, scriptOf(quick(2), quickDraws, c.steps...))
		if r.Code != 0 || r.Used != c.units || r.Done != len(c.steps) {
			t.Errorf("%s: code %d, %d units in %d steps, not %d", c.what, r.Code, r.Used, r.Done, c.units)
		}
	}
}

// burn: steps of this many units, at least 1, that change nothing but that server 3 is down.
func burn(units int) []impl.Step {
	out := []impl.Step{stCrash(3)}
	for units--; units > 0; units -= min(units, 10000) {
		out = append(out, stTick(3, min(units, 10000)))
	}
	return out
}

func TestClusterFuel(t *testing.T) {
	spent := burn(60000)
	all := play(t, scriptOf(plainSetup(), nil, spent...))
	wantNumbers(t, "all the fuel", all, 0, 60000, len(spent), 3, 0, 0, 0)
	want := all
	want.Code = 2
	for _, st := range edgeSteps() {
		wantReport(t, told(st), impl.RunCluster(scriptOf(plainSetup(), nil, append(slices.Clone(spent), st)...)), want)
		wantReport(t, told(st), impl.RunCluster(scriptOf(plainSetup(), nil, append(slices.Clone(spent), st, stCalm(1), stOpen(1))...)), want)
	}
	// the last step needs this many units; the fuel has that many, or fewer
	for _, c := range []struct {
		ahead []impl.Step
		last  impl.Step
		units int
	}{
		{nil, stTick(1, 3), 3}, {nil, stPoke(1), 1}, {nil, stFlow(9), 1}, {nil, stDeliver(0), 1}, {nil, stCalm(1), 5}, {nil, stCalm(2), 10},
		{[]impl.Step{stTick(1, 4)}, stFlow(2), 2}, {[]impl.Step{stTick(1, 4)}, stFlow(9), 9}, {[]impl.Step{stTick(1, 4)}, stFlow(20), 10}, {[]impl.Step{stTick(1, 4)}, stCalm(1), 7}, {[]impl.Step{stTick(1, 4)}, stCalm(2), 13},
	} {
		ahead := play(t, scriptOf(plainSetup(), quickDraws, append(slices.Clone(c.ahead), stCrash(3))...)).Used - 1
		for fuel := range c.units + 2 {
			steps := slices.Concat(c.ahead, burn(60000-fuel-ahead), []impl.Step{c.last})
			r := play(t, scriptOf(plainSetup(), quickDraws, steps...))
			if fuel >= c.units && (r.Code != 0 || r.Used != 60000-fuel+c.units || r.Done != len(steps)) {
				t.Errorf("%+v with fuel for %d units: %v", c.last, fuel, reportNumbers(r))
			}
			if fuel < c.units && (r.Code != 2 || r.Used != 60000 || r.Done != len(steps)-1) {
				t.Errorf("%+v with fuel for %d units: %v", c.last, fuel, reportNumbers(r))
			}
		}
	}
}

func TestClusterDrawn(t *testing.T) {
	for _, c := range []struct {
		what  string
		draws []int
		steps []impl.Step
		drawn int
	}{
		{"first starts", []int{5, 5, 5, 5}, nil, 3},
		{"first starts of a spent feed", nil, nil, 3},
		{"ticks that set no timer", nil, []impl.Step{stTick(1, 3)}, 3},
		{"an ask", nil, []impl.Step{stTick(1, 4)}, 4},
		{"an ask by the feed's draws", []int{3, 0, 0, 1}, []impl.Step{stTick(1, 6)}, 3},
		{"asks by the feed's draws", []int{3, 0, 0, 1}, []impl.Step{stTick(1, 7), stTick(1, 4)}, 4},
		{"asks by the feed's draws, the second in time", []int{3, 0, 0, 1}, []impl.Step{stTick(1, 7), stTick(1, 5)}, 5},
		{"a start", nil, []impl.Step{stCrash(1), stStart(1)}, 4},
		{"a start of one that is up", nil, []impl.Step{stStart(1), stStart(2)}, 3},
		{"calm rounds", nil, []impl.Step{stCalm(100)}, 3},
		{"calm rounds between", nil, []impl.Step{stTick(1, 4), stCalm(100), stCrash(2), stStart(2)}, 5},
		{"an election", quickDraws, led(), 9},
	} {
		if r := play(t, scriptOf(quick(1), c.draws, c.steps...)); r.Drawn != c.drawn {
			t.Errorf("%s: %d draws used up, not %d", c.what, r.Drawn, c.drawn)
		}
	}
}

// The draws go to those who ask for them, in the order in which they ask.
func TestClusterDrawsInOrder(t *testing.T) {
	su := quick(1)
	for _, c := range []struct {
		draws  []int
		ticks  [3]int // those at which the servers ask for the first time
		second int    // the ticks from there to server 2's second asking
	}{
		{[]int{1, 2, 3, 0, 2, 0}, [3]int{5, 6, 7}, 6}, {[]int{3, 3, 0, 1, 3, 2}, [3]int{7, 7, 4}, 7}, {nil, [3]int{4, 4, 4}, 4}, {[]int{2}, [3]int{6, 4, 4}, 4}, {[]int{8, 4, 7}, [3]int{4, 4, 7}, 4},
	} {
		var steps []impl.Step
		packets := 0
		for i, n := range c.ticks {
			steps = append(steps, stTick(i+1, n-1))
			if r := play(t, scriptOf(su, c.draws, steps...)); r.Packets != packets {
				t.Errorf("draws %v: server %d asks ahead of its tick %d", c.draws, i+1, n)
			}
			steps = append(steps, stTick(i+1, 1))
			packets += 2
			if r := play(t, scriptOf(su, c.draws, steps...)); r.Packets != packets {
				t.Errorf("draws %v: server %d does not ask at its tick %d", c.draws, i+1, n)
			}
		}
		if r := play(t, scriptOf(su, c.draws, append(steps, stTick(2, c.second-1))...)); r.Packets != 6 {
			t.Errorf("draws %v: server 2 asks again too early", c.draws)
		}
		if r := play(t, scriptOf(su, c.draws, append(steps, stTick(2, c.second))...)); r.Packets != 8 {
			t.Errorf("draws %v: server 2 does not ask again", c.draws)
		}
	}
}

func TestClusterRefused(t *testing.T) {
	down := []impl.Step{stCrash(1), stCrash(2), stCrash(3)}
	for _, c := range []struct {
		what             string
		steps            []impl.Step
		refused, packets int
	}{
		{"spoilt on the way to a server", []impl.Step{stTick(1, 4), stSpoil(0, 9, 0)}, 1, 1},
		{"both spoilt", []impl.Step{stTick(1, 4), stSpoil(1, 9, 0), stSpoil(0, 16384, 254)}, 2, 0},
		{"a call spoilt", []impl.Step{stGet(1, "a"), stSpoil(0, 0, 0)}, 1, 0},
		{"a reply spoilt", []impl.Step{stGet(1, "a"), stFlow(1), stSpoil(0, 20, 3)}, 1, 0},
		{"spoilt to one that is down", append([]impl.Step{stTick(1, 4)}, append(slices.Clone(down), stSpoil(0, 9, 0))...), 0, 1},
		{"spoilt to one behind a wall", []impl.Step{stTick(1, 4), stWall(2), stSpoil(0, 9, 0)}, 0, 1},
		{"spoilt from one behind a wall", []impl.Step{stTick(1, 4), stWall(1), stSpoil(0, 9, 0)}, 0, 1},
		{"a spoilt reply of one behind a wall", []impl.Step{stGet(1, "a"), stFlow(1), stWall(1), stSpoil(0, 9, 0)}, 0, 0},
		{"dropped", []impl.Step{stTick(1, 4), stDrop(0)}, 0, 1},
		{"a reply that says nothing new", led(stPut(1, "a", "b"), stFlow(6), stRepeat(0), stFlow(100)), 0, 0},
		{"a reply after its time", led(stPut(1, "a", "b"), stFlow(4), stRepeat(1), stFlow(100)), 0, 0},
	} {
		r := play(t, scriptOf(quick(1), quickDraws, c.steps...))
		if r.Refused != c.refused || r.Packets != c.packets {
			t.Errorf("%s: %d refused, %d packets, not %d and %d", c.what, r.Refused, r.Packets, c.refused, c.packets)
		}
	}
}

func TestClusterFull(t *testing.T) {
	su := quick(1)
	// no room for the term and the vote: each grant of the others is undone
	su.Disk = 0
	r := play(t, scriptOf(su, quickDraws, led()...))
	wantNumbers(t, "no room at all", r, 0, 4+5, 2, 4, 0, 2, 0)
	// room for those, not for the blank entry: server 1 stands, and its election is undone with each vote
	su.Disk = 11
	r = play(t, scriptOf(su, quickDraws, led()...))
	if r.Full != 2 || len(r.Leads) != 0 || r.Servers[0].Role != impl.RoleCandidate || r.Drawn != 7 {
		t.Errorf("room for a vote: %s", told(r))
	}
	// room for the blank entry, not for the command: the client's call is undone as often as it comes
	su.Disk = 30
	r = play(t, scriptOf(su, quickDraws, led(stPut(1, "a", "b"), stRepeat(0), stRepeat(0), stFlow(100))...))
	if r.Full != 3 || len(r.Leads) != 1 || len(r.Facts) != 1 || r.Clients[0].Busy != 1 || r.Packets != 0 {
		t.Errorf("room for a blank entry: %s", told(r))
	}
}

func TestClusterWalls(t *testing.T) {
	for _, c := range []struct {
		what    string
		steps   []impl.Step
		packets int
	}{
		{"asks", []impl.Step{stTick(1, 4)}, 2},
		{"behind a wall when they are sent", []impl.Step{stWall(2), stTick(1, 4)}, 1},
		{"the sender behind a wall", []impl.Step{stWall(1), stTick(1, 4)}, 0},
		{"all behind walls", []impl.Step{stWall(3), stWall(1), stWall(2), stTick(1, 4)}, 0},
		{"opened too late", []impl.Step{stWall(2), stTick(1, 4), stOpen(2)}, 1},
		{"opened in time", []impl.Step{stWall(2), stWall(2), stOpen(2), stTick(1, 4)}, 2},
		{"another opened", []impl.Step{stWall(2), stOpen(3), stTick(1, 4)}, 1},
		{"walled off on the way", []impl.Step{stTick(1, 4), stWall(2)}, 2},
		{"walled off when it comes", []impl.Step{stTick(1, 4), stWall(2), stFlow(1)}, 1},
		{"open again when it comes", []impl.Step{stTick(1, 4), stWall(2), stOpen(2), stFlow(1)}, 2},
		{"a wall away from it", []impl.Step{stTick(1, 4), stWall(3), stFlow(1)}, 2},
		{"the sender walled off when it comes", []impl.Step{stTick(1, 4), stWall(1), stFlow(2)}, 0},
		{"repeated behind a wall", []impl.Step{stTick(1, 4), stWall(2), stRepeat(0)}, 2},
		{"a call", []impl.Step{stGet(1, "a")}, 1},
		{"a call to one behind a wall", []impl.Step{stWall(1), stGet(1, "a")}, 0},
		{"a call that comes to a wall", []impl.Step{stGet(1, "a"), stWall(1), stFlow(1)}, 0},
		{"a reply", []impl.Step{stGet(1, "a"), stFlow(1)}, 1},
		{"a reply that comes from behind a wall", []impl.Step{stGet(1, "a"), stFlow(1), stWall(1), stFlow(1)}, 0},
	} {
		if r := play(t, scriptOf(quick(1), quickDraws, c.steps...)); r.Packets != c.packets || r.Refused != 0 {
			t.Errorf("%s: %d packets, not %d", c.what, r.Packets, c.packets)
		}
	}
	// the redirection does not come: the client's target stays
	r := play(t, scriptOf(quick(1), quickDraws, stGet(1, "a"), stFlow(1), stWall(1), stFlow(1)))
	s := play(t, scriptOf(quick(1), quickDraws, stGet(1, "a"), stFlow(1), stFlow(1)))
	if r.Clients[0].Target != 1 || s.Clients[0].Target != 2 {
		t.Errorf("targets %d and %d", r.Clients[0].Target, s.Clients[0].Target)
	}
}

// A bag takes MaxPackets packets; what is sent beyond is lost, and room that is made is used again.
func TestClusterFullBag(t *testing.T) {
	su := quick(1)
	asks := []impl.Step{stTick(1, 4*2047)}
	wantNumbers(t, "nearly full", impl.RunCluster(scriptOf(su, nil, asks...)), 0, 8188, 1, 3+2047, 0, 0, 4094)
	wantNumbers(t, "full", impl.RunCluster(scriptOf(su, nil, append(asks, stTick(1, 4))...)), 0, 8192, 2, 3+2048, 0, 0, 4096)
	wantNumbers(t, "over full", impl.RunCluster(scriptOf(su, nil, append(asks, stTick(1, 40))...)), 0, 8228, 2, 3+2057, 0, 0, 4096)
	// one is gone and one of two goes in; then a client's call has no room
	steps := append(asks, stTick(1, 4), stDrop(4095), stTick(2, 4), stGet(1, "a"))
	wantNumbers(t, "one in place of another", impl.RunCluster(scriptOf(su, nil, steps...)), 0, 8192+1+4+1, 5, 3+2048+1, 0, 0, 4096)
	// the last one is that of server 2 to server 1, which grants, and the answer has room; then the client's call has none
	steps = append(steps, stDeliver(4095), stPoke(1), stPoke(1), stPoke(1), stPoke(1), stPoke(1))
	r := impl.RunCluster(scriptOf(su, nil, steps...))
	if r.Packets != 4096 || r.Clients[0].Target != 2 || r.Clients[0].Busy != 1 {
		t.Errorf("%s", told(r))
	}
	wantReport(t, "against the model", r, modelCluster(scriptOf(su, nil, steps...)))
	// a spoilt packet is out of the bag, and nothing comes in its place
	r = impl.RunCluster(scriptOf(su, nil, append(steps, stSpoil(4095, 3, 3))...))
	if r.Packets != 4095 || r.Refused != 1 {
		t.Errorf("%d packets, %d refused", r.Packets, r.Refused)
	}
}

// A pick beyond the number of packets goes round.
func TestClusterPicks(t *testing.T) {
	for pick := range 9 {
		for _, st := range []impl.Step{stDeliver(pick), stDrop(pick), stRepeat(pick), stSpoil(pick, 4, 4)} {
			play(t, scriptOf(quick(1), quickDraws, stTick(1, 4), stTick(2, 7), st, stFlow(3), st, stFlow(100)))
		}
	}
	// packet 0 goes to server 2, packet 1 to server 3
	for pick, granted := range []int{2, 3, 2, 3} {
		r := play(t, scriptOf(quick(1), quickDraws, stTick(1, 4), stDeliver(pick), stWall(granted), stFlow(2)))
		s := play(t, scriptOf(quick(1), quickDraws, stTick(1, 4), stDeliver(pick), stWall(5-granted), stFlow(2)))
		if r.Servers[0].Term != 0 || s.Servers[0].Term != 1 {
			t.Errorf("pick %d: terms %d and %d", pick, r.Servers[0].Term, s.Servers[0].Term)
		}
	}
}

func TestClusterRepeats(t *testing.T) {
	// a grant that comes twice is one
	su := quick(1)
	su.Servers = 5
	r := play(t, scriptOf(su, []int{0, 3, 3, 3, 3}, stTick(1, 4), stDeliver(0), stRepeat(3), stRepeat(3), stRepeat(3)))
	if r.Servers[0].Term != 0 || r.Packets != 4 {
		t.Errorf("repeated grants: %s", told(r))
	}
	// a call that comes again and again is carried out once
	steps := led(stPut(1, "a", "b"), stRepeat(0), stRepeat(0), stRepeat(0), stFlow(100), stGet(1, "a"), stFlow(100))
	r = play(t, scriptOf(quick(1), quickDraws, steps...))
	if len(r.Facts) != 3 || len(r.Events) != 4 || r.Clients[0].Busy != 0 {
		t.Errorf("repeated calls: %s", told(r))
	}
	// also where it comes again when it was carried out long ago
	steps = led(stPut(1, "a", "b"), stRepeat(0), stFlow(0+1), stDeliver(0), stDeliver(0), stDeliver(0), stDeliver(0), stFlow(100), stAsk(1, delOf(0, 0, "a")), stFlow(100))
	r = play(t, scriptOf(quick(1), quickDraws, steps...))
	if len(r.Order) != 2 || len(r.Facts) != 3 {
		t.Errorf("a call that comes late: %s", told(r))
	}
}

// Each kind of step over a server that is up, and over the same one when it is down.
func TestClusterUpAndDown(t *testing.T) {
	type end struct{ up, drawn, packets, refused int }
	// server 2 is up or down when the step comes; the asks of server 1 to 2 and 3 are on the way
	for _, c := range []struct {
		what     string
		step     impl.Step
		up, down end
	}{
		{"tick", stTick(2, 7), end{1, 5, 4, 0}, end{0, 4, 2, 0}},
		{"deliver", stDeliver(0), end{1, 4, 2, 0}, end{0, 4, 1, 0}},
		{"repeat", stRepeat(0), end{1, 4, 3, 0}, end{0, 4, 2, 0}},
		{"drop", stDrop(0), end{1, 4, 1, 0}, end{0, 4, 1, 0}},
		{"spoil", stSpoil(0, 9, 9), end{1, 4, 1, 1}, end{0, 4, 1, 0}},
		{"crash", stCrash(2), end{0, 4, 2, 0}, end{0, 4, 2, 0}},
		{"tear", stTear(2, 0), end{1, 4, 2, 0}, end{0, 4, 2, 0}},
		{"start", stStart(2), end{1, 4, 2, 0}, end{1, 5, 2, 0}},
		{"wall", stWall(2), end{1, 4, 2, 0}, end{0, 4, 2, 0}},
		{"open", stOpen(2), end{1, 4, 2, 0}, end{0, 4, 2, 0}},
		{"ask", stGet(2, "a"), end{1, 4, 3, 0}, end{0, 4, 3, 0}},
		{"poke", stPoke(2), end{1, 4, 2, 0}, end{0, 4, 2, 0}},
		{"calm", stCalm(1), end{1, 4, 2, 0}, end{0, 4, 1, 0}},
		{"flow", stFlow(1), end{1, 4, 2, 0}, end{0, 4, 1, 0}},
	} {
		for i, want := range []end{c.up, c.down} {
			steps := [][]impl.Step{{stTick(1, 4), c.step}, {stTick(1, 4), stCrash(2), c.step}}[i]
			r := play(t, scriptOf(quick(2), quickDraws, steps...))
			if got := (end{r.Servers[1].Up, r.Drawn, r.Packets, r.Refused}); got != want {
				t.Errorf("%s: %+v, not %+v", c.what, got, want)
			}
		}
	}
	// set to tear while it is down, or ahead of a crash, is not set to tear
	for _, steps := range [][]impl.Step{{stCrash(1), stTear(1, 0), stStart(1)}, {stTear(1, 0), stCrash(1), stStart(1)}} {
		r := play(t, scriptOf(quick(1), quickDraws, append(steps, stTick(1, 7), stFlow(100))...))
		wantLeads(t, "no longer set to tear", r, "1 by 1: 1")
	}
	r := play(t, scriptOf(quick(1), quickDraws, stTear(1, 0), stTick(1, 7), stFlow(100)))
	wantLeads(t, "set to tear", r)
	if r.Servers[0].Up != 0 {
		t.Errorf("set to tear: %s", told(r.Servers[0]))
	}
}
