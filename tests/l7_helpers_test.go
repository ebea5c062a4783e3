package tests

import (
	"slices"
	"testing"

	"loop.example/s01586/impl"
)

// Steps, one builder a kind.

func stTick(server, times int) impl.Step {
	return impl.Step{Kind: impl.StTick, A: server, B: times}
}

func stDeliver(pick int) impl.Step {
	return impl.Step{Kind: impl.StDeliver, A: pick}
}

func stRepeat(pick int) impl.Step {
	return impl.Step{Kind: impl.StRepeat, A: pick}
}

func stDrop(pick int) impl.Step {
	return impl.Step{Kind: impl.StDrop, A: pick}
}

func stSpoil(pick, at, x int) impl.Step {
	return impl.Step{Kind: impl.StSpoil, A: pick, B: at, C: x}
}

func stCrash(server int) impl.Step {
	return impl.Step{Kind: impl.StCrash, A: server}
}

func stTear(server, keep int) impl.Step {
	return impl.Step{Kind: impl.StTear, A: server, B: keep}
}

func stStart(server int) impl.Step {
	return impl.Step{Kind: impl.StStart, A: server}
}

func stWall(server int) impl.Step {
	return impl.Step{Kind: impl.StWall, A: server}
}

func stOpen(server int) impl.Step {
	return impl.Step{Kind: impl.StOpen, A: server}
}

// stAsk leaves the client and the number out of the command, as a script does.
func stAsk(client int, c impl.Cmd) impl.Step {
	c.Client, c.Seq = 0, 0
	return impl.Step{Kind: impl.StAsk, A: client, Cmd: c}
}

func stPut(client int, key, val string) impl.Step {
	return stAsk(client, putOf(0, 0, key, val))
}

func stGet(client int, key string) impl.Step {
	return stAsk(client, getOf(0, 0, key))
}

func stPoke(client int) impl.Step {
	return impl.Step{Kind: impl.StPoke, A: client}
}

func stCalm(rounds int) impl.Step {
	return impl.Step{Kind: impl.StCalm, A: rounds}
}

func stFlow(times int) impl.Step {
	return impl.Step{Kind: impl.StFlow, A: times}
}

func scriptOf(su impl.Setup, draws []int, steps ...impl.Step) impl.Script {
	return impl.Script{Setup: su, Draws: draws, Steps: steps}
}

// allSteps: one step of each kind, for a setup with three servers and two clients.
func allSteps() []impl.Step {
	return []impl.Step{
		stTick(1, 9), stDeliver(1), stRepeat(2), stDrop(3), stSpoil(4, 5, 6), stCrash(1), stTear(2, 7), stStart(1), stWall(3), stOpen(3),
		stGet(1, "a"), stPut(2, "b", "c"), stAsk(1, delOf(0, 0, "d")), stAsk(2, casOf(0, 0, "e", "f", "g")), stPoke(2), stCalm(3), stFlow(8),
	}
}

func sameLead(a, b impl.Lead) bool {
	return a.Term == b.Term && a.Server == b.Server && slices.Equal(a.Log, b.Log)
}

func sameScript(a, b impl.Script) bool {
	return a.Setup == b.Setup && slices.Equal(a.Draws, b.Draws) && slices.Equal(a.Steps, b.Steps)
}

func cloneScript(sc impl.Script) impl.Script {
	sc.Draws, sc.Steps = slices.Clone(sc.Draws), slices.Clone(sc.Steps)
	return sc
}

// reportNumbers: what a report has beside its lists.
func reportNumbers(r impl.Report) [7]int {
	return [7]int{r.Code, r.Used, r.Done, r.Drawn, r.Refused, r.Full, r.Packets}
}

// reportDiff names what differs, "" if nothing does.
func reportDiff(a, b impl.Report) string {
	switch {
	case reportNumbers(a) != reportNumbers(b):
		return "numbers"
	case !slices.Equal(a.Events, b.Events):
		return "events"
	case !slices.Equal(a.Facts, b.Facts):
		return "facts"
	case !slices.Equal(a.Order, b.Order):
		return "order"
	case !slices.EqualFunc(a.Leads, b.Leads, sameLead):
		return "leads"
	case !slices.EqualFunc(a.Servers, b.Servers, sameView):
		return "servers"
	case !slices.Equal(a.Clients, b.Clients):
		return "clients"
	}
	return ""
}

// wantReport names the first thing that is not as wanted.
func wantReport(t *testing.T, what string, got, want impl.Report) {
	t.Helper()
	if diff := reportDiff(got, want); diff != "" {
		t.Fatalf("%s: other %s:\n%s, not\n%s", what, diff, told(got), told(want))
	}
}

// play is a run that is also held against the model.
func play(t *testing.T, sc impl.Script) impl.Report {
	t.Helper()
	got := impl.RunCluster(sc)
	wantReport(t, "against the model", got, modelCluster(sc))
	return got
}

// wantNumbers: Used, Done, Drawn, Refused, Full, Packets of a run with this code.
func wantNumbers(t *testing.T, what string, r impl.Report, want ...int) {
	t.Helper()
	got := reportNumbers(r)
	if !slices.Equal(got[:], want) {
		t.Errorf("%s: Code, Used, Done, Drawn, Refused, Full, Packets are %v, not %v", what, got, want)
	}
}

// headText: the two lines ahead of the steps, for three servers and two clients.
const headText = "cluster 3 2 4 2 5 1000\ndraws 0 3\n"
