package tests

import (
	"math/rand"
	"slices"
	"testing"

	"loop.example/s01586/impl"
)

// Promise 14: no two servers ever apply different entries at one place, no two lead in one term, and a leader has what was agreed before.

// agreement counts the pairs of a fact and a later lead that were looked at.
type agreement struct {
	facts, leads, pairs int
}

func (x *agreement) check(t *testing.T, sc impl.Script, r impl.Report) {
	t.Helper()
	terms := map[int]int{}
	for _, l := range r.Leads {
		terms[l.Term]++
		if terms[l.Term] > 1 {
			t.Fatalf("two leads in term %d: %s", l.Term, modelTell(sc))
		}
	}
	for i, f := range r.Facts {
		if f.Index != i+1 {
			t.Fatalf("fact %d has the index %d: %s", i, f.Index, modelTell(sc))
		}
		for _, l := range r.Leads {
			if l.Term <= f.At {
				continue
			}
			x.pairs++
			if len(l.Log) < f.Index || l.Log[f.Index-1] != f.Entry {
				t.Fatalf("fact %+v is not in the log of the lead of term %d: %s", f, l.Term, modelTell(sc))
			}
		}
	}
	x.facts += len(r.Facts)
	x.leads += len(r.Leads)
	wantAgreed(t, sc, r)
}

// wantAgreed: what the servers have applied, at the end, are the facts.
func wantAgreed(t *testing.T, sc impl.Script, r impl.Report) {
	t.Helper()
	var log []impl.Entry
	for _, f := range r.Facts {
		log = append(log, f.Entry)
	}
	for _, v := range r.Servers {
		if v.Applied > len(log) || !sameTable(v.Table, impl.ApplyLog(log, v.Applied)) {
			t.Fatalf("server %d has applied %d places, and its table is not that of the facts: %s", v.Id, v.Applied, modelTell(sc))
		}
	}
}

func TestP14DrawnScripts(t *testing.T) {
	random := rand.New(rand.NewSource(715))
	var x agreement
	for range 2500 {
		sc := drawScript(random)
		x.check(t, sc, impl.RunCluster(sc))
	}
	for range 200 {
		sc := busyScript(random)
		x.check(t, sc, impl.RunCluster(sc))
	}
	if x.facts < 5000 || x.leads < 3000 || x.pairs < 5000 {
		t.Errorf("only %+v", x)
	}
}

// Leaders that follow one another quickly, each with entries that the others may not have.
func TestP14ManyLeaders(t *testing.T) {
	random := rand.New(rand.NewSource(717))
	var x agreement
	for range 150 {
		su := impl.Setup{Servers: sizes[random.Intn(2)], Clients: 4, Elect: 3, Beat: 1, Retry: 2, Disk: impl.MaxDisk}
		var steps []impl.Step
		for range 60 {
			for id := range su.Servers {
				steps = append(steps, stStart(id+1))
				if oneIn(random, 2) {
					steps = append(steps, stTick(id+1, 3))
				}
			}
			steps = append(steps, stTick(1+random.Intn(su.Servers), 6), stFlow(10+random.Intn(40)), stAsk(1+random.Intn(4), drawAsk(random)), stPoke(1+random.Intn(4)), stFlow(1+random.Intn(10)))
			if oneIn(random, 3) {
				steps = append(steps, stTear(1+random.Intn(su.Servers), random.Intn(60)))
			}
			if oneIn(random, 3) {
				steps = append(steps, stCrash(1+random.Intn(su.Servers)))
			}
		}
		sc := scriptOf(su, drawUsableDraws(random), steps...)
		x.check(t, sc, impl.RunCluster(sc))
	}
	if x.facts < 1500 || x.leads < 1000 || x.pairs < 10000 {
		t.Errorf("only %+v", x)
	}
}

// electedAlone: server id starts anew and is elected with the help of one other, and what it sends as the leader is lost. The third is behind a wall.
func electedAlone(id int) []impl.Step {
	return []impl.Step{stCrash(id), stStart(id), stTick(id, 4), stFlow(4), stDrop(0)}
}

// behindTerm: the same for a server whose term is behind: it asks, hears of the term, and asks again.
func behindTerm(id int) []impl.Step {
	return []impl.Step{stCrash(id), stStart(id), stTick(id, 4), stFlow(2), stTick(id, 4), stFlow(4)}
}

// Entries of former terms that a majority has are not agreed by that alone: another leader may still replace them.
func TestP14FormerTerms(t *testing.T) {
	su := quick(1)
	steps := []impl.Step{stWall(2)}
	for range 33 {
		steps = append(steps, electedAlone(1)...)
	}
	// server 2 leads in term 34, and nobody hears of it
	steps = append(steps, stWall(1), stOpen(2))
	steps = append(steps, behindTerm(2)...)
	steps = append(steps, stDrop(0))
	// server 1 leads in term 35, and server 3 takes 32 of its entries, none of them of this term
	steps = append(steps, stWall(2), stOpen(1))
	steps = append(steps, behindTerm(1)...)
	steps = append(steps, stFlow(4), stDrop(0))
	r := play(t, scriptOf(su, nil, steps...))
	if len(r.Leads) != 35 || len(r.Servers[2].Log) != 32 || len(r.Facts) != 0 || r.Packets != 0 {
		t.Fatalf("%q, %q, server 3 has %d entries", toldLeads(r.Leads), toldFacts(r.Facts), len(r.Servers[2].Log))
	}
	// server 2, whose entry is of a later term than those, leads in term 36
	steps = append(steps, stWall(1), stOpen(2), stCrash(3), stStart(3))
	steps = append(steps, behindTerm(2)...)
	steps = append(steps, stFlow(100))
	sc := scriptOf(su, nil, steps...)
	r = play(t, sc)
	if len(r.Leads) != 36 || len(r.Facts) != 2 {
		t.Fatalf("%q, %q", toldLeads(r.Leads), toldFacts(r.Facts))
	}
	var x agreement
	x.check(t, sc, r)
}

// One that asked in time, and asks for votes when the others have agreed on more than it has, does not lead.
func TestP14LateCandidate(t *testing.T) {
	su := quick(1)
	// server 2 forgets its leader and grants; server 3 stands in term 2, and its asks for votes are on the way
	steps := led(stCrash(2), stStart(2), stTick(3, 4), stFlow(3))
	r := play(t, scriptOf(su, quickDraws, steps...))
	if r.Servers[2].Role != impl.RoleCandidate || r.Servers[2].Term != 2 || r.Packets != 2 {
		t.Fatalf("%s, %d packets", told(r.Servers[2]), r.Packets)
	}
	// meanwhile a command is agreed by servers 1 and 2; then server 2 forgets its leader again, and the asks come
	steps = append(steps, stPut(1, "a", "b"), stDeliver(2), stDeliver(2), stDrop(2), stDeliver(2), stDeliver(2), stCrash(2), stStart(2), stFlow(100))
	sc := scriptOf(su, quickDraws, steps...)
	r = play(t, sc)
	if len(r.Facts) != 2 || r.Servers[1].Term != 2 {
		t.Fatalf("%q, %q, %s", toldLeads(r.Leads), toldFacts(r.Facts), told(r.Servers))
	}
	var x agreement
	x.check(t, sc, r)
	wantLeads(t, "a late candidate", r, "1 by 1: 1")
}

// Two that stand in one term, both granted by the third, which has one vote; it keeps it when it starts anew.
func TestP14OneVote(t *testing.T) {
	su := quick(1)
	// on the way are the grants of server 3 to both, then what both ask for votes
	stand := []impl.Step{stTick(1, 4), stTick(2, 4), stDeliver(1), stDeliver(2), stDrop(0), stDrop(0), stFlow(2)}
	for _, between := range [][]impl.Step{nil, {stCrash(3), stStart(3)}, {stTear(3, 0), stCrash(3), stStart(3)}, {stTick(3, 3)}} {
		steps := append(slices.Clone(stand), stDrop(0), stFlow(1), stDrop(0))
		steps = append(append(steps, between...), stFlow(3))
		sc := scriptOf(su, []int{0, 0, 3}, steps...)
		r := play(t, sc)
		if r.Servers[0].Term != 1 || r.Servers[1].Term != 1 || r.Servers[1].Role != impl.RoleCandidate {
			t.Fatalf("%s", told(r.Servers))
		}
		wantLeads(t, "one vote", r, "1 by 1: 1")
		var x agreement
		x.check(t, sc, r)
	}
}
