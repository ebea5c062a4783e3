package tests

import (
	"math/rand"
	"slices"
	"testing"

	"loop.example/s01586/impl"
)

// Promise 9, its second half: a server that led and was cut off for Elect ticks answers a call with StatusRedirect.

// cutOff: behind these events the server leads; then it gets no message during the ticks, and one call behind them.
func cutOff(t *testing.T, su impl.Setup, id int, lead []impl.ServerEvent, ticks int, c impl.Cmd) (impl.ServerOut, impl.ServerView) {
	t.Helper()
	if role := run(t, su, id, nil, lead...).View.Role; role != impl.RoleLeader {
		t.Fatalf("it does not lead: role %d", role)
	}
	return lastOut(t, su, id, nil, slices.Concat(lead, slices.Repeat([]impl.ServerEvent{evTick}, ticks), []impl.ServerEvent{evCall(c)})...)
}

func TestP9ServerRedirects(t *testing.T) {
	for _, servers := range sizes {
		for _, elect := range []int{2, 3, 10, 200} {
			su := setupOf(servers, elect, impl.MaxDisk)
			for _, id := range []int{1, 2, servers} {
				lead := toLead(su, id, 1)
				for _, ticks := range []int{elect, elect + 1, 2*elect - 1, 2 * elect, 5 * elect} {
					out, view := cutOff(t, su, id, lead, ticks, somePut)
					wantOut(t, "cut off", out, impl.ServerOut{Sends: []impl.Send{redirectOf(1, 9, 0)}})
					if view.Role == impl.RoleLeader || view.Leader != 0 || view.Term != 1 || len(view.Log) != 1 {
						t.Errorf("%d of %d, elect %d, %d ticks: %s", id, servers, elect, ticks, told(view))
					}
				}
				// One tick less: it leads, and takes the command.
				out, view := cutOff(t, su, id, lead, elect-1, somePut)
				if view.Role != impl.RoleLeader || len(out.Sends) != servers-1 || len(view.Log) != 2 {
					t.Errorf("%d of %d, elect %d: %s, %s", id, servers, elect, told(out), told(view))
				}
			}
		}
	}
}

// Also a command that was carried out, or is under way, is sent on: the leader of old knows of it, but it does not lead.
func TestP9ServerRedirectsWhatItKnows(t *testing.T) {
	su := setupOf(3, 5, impl.MaxDisk)
	lead := append(toLead(su, 1, 1), evCall(putOf(1, 1, "k", "v")), evYes(2, 1, 1, 2), evCall(putOf(2, 4, "k", "w")))
	for _, c := range []impl.Cmd{putOf(1, 1, "k", "v"), putOf(2, 4, "k", "w"), putOf(2, 5, "k", "w")} {
		out, view := cutOff(t, su, 1, lead, su.Elect, c)
		wantOut(t, "cut off", out, impl.ServerOut{From: 2, To: 2, Sends: []impl.Send{redirectOf(c.Client, c.Seq, 0)}})
		if len(view.Log) != 3 || len(view.Table.Pairs) != 1 {
			t.Errorf("%s", told(view))
		}
	}
}

// Calls and packets that are refused are no messages of the others: they don't keep a leader.
func TestP9ServerHearsOnlyMessages(t *testing.T) {
	random := rand.New(rand.NewSource(69))
	for range 400 {
		su := drawSetup(random)
		su.Disk = impl.MaxDisk
		id := 1 + random.Intn(su.Servers)
		events := toLead(su, id, 1)
		for seq := range su.Elect {
			for range random.Intn(3) {
				events = append(events, evCall(putOf(1+random.Intn(8), 1+seq, "k", "")))
			}
			if oneIn(random, 3) {
				events = append(events, evBytes(grantedBy(su.Servers, id)[0], []byte("no frame")))
			}
			events = append(events, evTick)
		}
		client := 1 + random.Intn(8)
		out, view := lastOut(t, su, id, nil, append(events, evCall(getOf(client, 99, "k")))...)
		wantOut(t, "cut off", out, impl.ServerOut{Sends: []impl.Send{redirectOf(client, 99, 0)}})
		if view.Role != impl.RoleFollower {
			t.Fatalf("%s", told(view))
		}
	}
}

// A leader that just enough of the others answer leads on and takes calls; with one less it sends them on.
func TestP9ServerJustEnough(t *testing.T) {
	for _, servers := range sizes {
		su := setupOf(servers, 6, impl.MaxDisk)
		for answers := range servers {
			events := toLead(su, 1, 1)
			for range 4 * su.Elect {
				events = append(events, evTick)
				for _, j := range othersOf(impl.Node{Id: 1, Size: servers})[:min(answers, servers-1)] {
					events = append(events, evYes(j, 1, 1, 0))
				}
			}
			out, _ := lastOut(t, su, 1, nil, append(events, evCall(somePut))...)
			_, replies := toldSends(out.Sends)
			if sentOn := len(replies) == 1 && replies[0].Status == impl.StatusRedirect; sentOn == (answers >= servers/2) {
				t.Errorf("%d of %d answer: %s", answers, servers-1, told(out))
			}
		}
	}
}
