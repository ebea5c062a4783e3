package tests

import (
	"math/rand"
	"slices"
	"testing"

	"loop.example/s01586/impl"
)

// Promise 13: every replied command is carried out exactly once, between its ask and its reply, each other at most once.

// wantWitness: the report's order is a witness for its events, and no longer one if any reply is changed.
func wantWitness(t *testing.T, sc impl.Script, r impl.Report) int {
	t.Helper()
	if got := impl.Linear(r.Events, r.Order); got != (impl.LinearAnswer{}) {
		t.Fatalf("%+v of %s", got, modelTell(sc))
	}
	replies := 0
	for i, ev := range r.Events {
		if ev.Kind != impl.EventReply {
			continue
		}
		replies++
		place := slices.Index(r.Order, ev.Cmd)
		for _, other := range []impl.Event{replied(ev.Cmd, ev.Code%4+1, ev.Val), replied(ev.Cmd, ev.Code, ev.Val+"x"), replied(ev.Cmd, (ev.Code+1)%4+1, "")} {
			events := slices.Clone(r.Events)
			events[i] = other
			if got := impl.Linear(events, r.Order); got != (impl.LinearAnswer{Code: 4, At: place}) {
				t.Fatalf("%+v, though reply %d is changed to %+v: %s", got, i, other, modelTell(sc))
			}
		}
	}
	return replies
}

func TestP13DrawnScripts(t *testing.T) {
	random := rand.New(rand.NewSource(713))
	replies, repeats := 0, 0
	for range 1500 {
		sc := drawScript(random)
		r := impl.RunCluster(sc)
		replies += wantWitness(t, sc, r)
		if len(r.Leads) > 2 && len(r.Order) > 3 {
			repeats++
		}
	}
	if replies < 1500 || repeats < 100 {
		t.Errorf("only %d replies, %d runs with several leaders", replies, repeats)
	}
}

// busyScript: clients that ask all the time while servers crash, tear, are walled off and tick on their own.
func busyScript(random *rand.Rand) impl.Script {
	su := drawTimed(random)
	su.Clients, su.Retry = 4, 3+random.Intn(8)
	steps := []impl.Step{stTick(1+random.Intn(su.Servers), 2*su.Elect), stFlow(100)}
	for range 40 {
		for c := range su.Clients {
			steps = append(steps, stAsk(c+1, drawAsk(random)))
		}
		steps = append(steps, drawRoughs(random, su, random.Intn(4))...)
		steps = append(steps, stFlow(1+random.Intn(12)))
		if oneIn(random, 3) {
			steps = append(steps, stStart(1+random.Intn(su.Servers)), stOpen(1+random.Intn(su.Servers)), stCalm(1+random.Intn(su.Elect)))
		}
	}
	return scriptOf(su, drawUsableDraws(random), steps...)
}

func TestP13BusyClients(t *testing.T) {
	random := rand.New(rand.NewSource(714))
	replies, leads := 0, 0
	for range 150 {
		sc := busyScript(random)
		r := impl.RunCluster(sc)
		replies += wantWitness(t, sc, r)
		leads += len(r.Leads)
	}
	if replies < 3000 || leads < 200 {
		t.Errorf("only %d replies, %d leads", replies, leads)
	}
}
