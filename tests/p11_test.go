package tests

import (
	"math/rand"
	"slices"
	"testing"

	"loop.example/s01586/impl"
)

// Promise 11: a command applied a second time changes nothing and brings the same again; so a log is worth what it is without its repeats.

// The clients' commands in any order among each other, each with its own numbers rising: a command, then others of other clients, then the same again.
func TestP11AgainBringsTheSame(t *testing.T) {
	random := rand.New(rand.NewSource(61))
	for range 120 {
		tab := impl.Table{}
		if oneIn(random, 8) {
			tab.Pairs = fullPairs(impl.MaxPairs - random.Intn(2))
		}
		seqs := map[int]int{}
		last := map[int]impl.Cmd{}
		brought := map[int]impl.ApplyAnswer{}
		for range 60 {
			c := drawCmd(random, 8, 3)
			seqs[c.Client] += c.Seq
			c.Seq = seqs[c.Client]
			if impl.CmdFault(c) != 0 || c.Op == impl.OpNone {
				continue
			}
			first := impl.ApplyCmd(tab, c)
			if first.Code != 0 {
				t.Fatalf("%+v: %s", c, told(first))
			}
			tab = first.Table
			last[c.Client], brought[c.Client] = c, first
			for client := 1; client <= impl.MaxClients; client++ {
				if repeat, asked := last[client]; asked {
					checkAgain(t, tab, repeat, brought[client])
					checkAgain(t, tab, otherRest(random, repeat), brought[client])
				}
			}
		}
	}
}

// otherRest: a command of the same client and number that asks for something else.
func otherRest(random *rand.Rand, c impl.Cmd) impl.Cmd {
	other := impl.Cmd{Op: impl.OpNone}
	for impl.CmdFault(other) != 0 || other.Op == impl.OpNone {
		other = drawCmd(random, 8, 3)
		other.Client, other.Seq = c.Client, c.Seq
	}
	return other
}

func checkAgain(t *testing.T, tab impl.Table, c impl.Cmd, first impl.ApplyAnswer) {
	t.Helper()
	want := impl.ApplyAnswer{Code: 2, Result: first.Result, Val: first.Val, Table: tab}
	if got := impl.ApplyCmd(tab, c); !sameApply(got, want) {
		t.Fatalf("%+v again: %s, not %s", c, told(got), told(want))
	}
}

// withoutRepeats: the log without the entries whose client and number stood ahead of them already.
func withoutRepeats(log []impl.Entry) []impl.Entry {
	type id struct{ client, seq int }
	seen := map[id]bool{}
	var out []impl.Entry
	for _, e := range log {
		c := id{e.Cmd.Client, e.Cmd.Seq}
		if e.Cmd.Op == impl.OpNone || !seen[c] {
			out = append(out, e)
		}
		seen[c] = true
	}
	return out
}

func TestP11LogsWithoutTheirRepeats(t *testing.T) {
	random := rand.New(rand.NewSource(62))
	repeats := 0
	for range 600 {
		var log []impl.Entry
		for range random.Intn(120) {
			e := impl.Entry{Term: 1 + len(log)/9}
			switch {
			case len(log) > 0 && oneIn(random, 2):
				// Some command from before, with its rest or with another.
				e.Cmd = log[random.Intn(len(log))].Cmd
				if e.Cmd.Op != impl.OpNone && oneIn(random, 3) {
					e.Cmd = otherRest(random, e.Cmd)
				}
			case oneIn(random, 10):
			default:
				e.Cmd = otherRest(random, impl.Cmd{Client: 1 + random.Intn(8), Seq: 1 + random.Intn(40)})
			}
			log = append(log, e)
		}
		once := withoutRepeats(log)
		repeats += len(log) - len(once)
		if got, want := impl.ApplyLog(log, len(log)), impl.ApplyLog(once, len(once)); !sameTable(got, want) {
			t.Fatalf("%s, but without repeats %s", told(got), told(want))
		}
	}
	if repeats < 5000 {
		t.Errorf("only %d repeats", repeats)
	}
}

// The whole log a second time behind itself: nothing changes, at any length up to MaxLog.
func TestP11LogsTwice(t *testing.T) {
	random := rand.New(rand.NewSource(63))
	for _, n := range []int{1, 10, 300, impl.MaxLog / 2} {
		var log []impl.Entry
		for i := range n {
			c := otherRest(random, impl.Cmd{Client: 1 + i%8, Seq: 1 + i/8})
			log = append(log, impl.Entry{Term: 1, Cmd: c})
		}
		twice := slices.Concat(log, log)
		if got, want := impl.ApplyLog(twice, len(twice)), impl.ApplyLog(log, n); !sameTable(got, want) {
			t.Errorf("%d entries twice: %s, not %s", n, told(got), told(want))
		}
	}
}
