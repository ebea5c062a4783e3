package tests

import (
	"math/rand"
	"slices"
	"testing"

	"loop.example/s01586/impl"
)

// Promise 3: whatever is lost of the unsynced end, a restart finds the old state, the new one, or one on the way between them.

// stateSamples: states whose logs part at every place, or are beginnings of each other.
func stateSamples() []impl.Stable {
	trunk := []impl.Entry{putEntry(1, 1, "a"), {Term: 2}, putEntry(2, 3, letters(64)), putEntry(4, 300, "")}
	logs := [][]impl.Entry{nil}
	for n := 1; n <= len(trunk); n++ {
		logs = append(logs, trunk[:n])
	}
	for n := range trunk {
		branch := append(slices.Clone(trunk[:n]), impl.Entry{Term: 4}, putEntry(4, 9, "branch"))
		logs = append(logs, branch)
	}
	var out []impl.Stable
	for _, log := range logs {
		for _, at := range [][2]int{{0, 0}, {4, 0}, {4, 1}, {4, 7}, {5, 0}, {5, 2}, {impl.MaxTerm, 3}} {
			if at[0] > 0 || len(log) == 0 {
				out = append(out, impl.Stable{Term: at[0], Vote: at[1], Log: log})
			}
		}
	}
	return out
}

func held(t *testing.T, s impl.Stable) impl.Disk {
	t.Helper()
	w := impl.DiskWrite(impl.Disk{Cap: impl.MaxDisk}, recordsOf(s))
	if w.Code != 0 {
		t.Fatalf("%+v does not go on a disk: %d", s, w.Code)
	}
	return impl.DiskSync(w.Disk)
}

func startsWith(log, head []impl.Entry) bool {
	return len(log) >= len(head) && slices.Equal(log[:len(head)], head)
}

func between(got, old, updated impl.Stable) bool {
	n := 0
	for n < len(old.Log) && n < len(updated.Log) && old.Log[n] == updated.Log[n] {
		n++
	}
	isOld := got.Term == old.Term && got.Vote == old.Vote
	isNew := got.Term == updated.Term && got.Vote == updated.Vote
	logFits := slices.Equal(got.Log, old.Log) || startsWith(updated.Log, got.Log)
	return (isOld || isNew) && logFits && startsWith(got.Log, old.Log[:n])
}

func checkPair(t *testing.T, old, updated impl.Stable) {
	t.Helper()
	d := held(t, old)
	w := impl.DiskWrite(d, impl.PlanRecords(old, updated).Records)
	if w.Code != 0 || w.Disk.Synced != len(d.Data) {
		t.Fatalf("the write: %d, %d synced", w.Code, w.Disk.Synced)
	}
	tail := len(w.Disk.Data) - len(d.Data)
	for keep := 0; keep <= tail; keep++ {
		r := impl.Restart(impl.DiskCrash(w.Disk, keep))
		if r.Code != 0 || !between(r.Stable, old, updated) {
			t.Fatalf("from %+v to %+v, %d of %d bytes kept: %+v", old, updated, keep, tail, r)
		}
		if keep == 0 && !sameStable(r.Stable, old) {
			t.Fatalf("nothing kept: %+v, not %+v", r.Stable, old)
		}
		if keep == tail && !sameStable(r.Stable, updated) {
			t.Fatalf("all kept: %+v, not %+v", r.Stable, updated)
		}
		goesOn(t, r, updated)
	}
	if r := impl.Restart(impl.DiskCrash(impl.DiskSync(w.Disk), 0)); r.Code != 0 || !sameStable(r.Stable, updated) {
		t.Fatalf("synced: %+v, not %+v", r, updated)
	}
}

// goesOn: a restarted disk holds what Restart told, all synced, and takes the rest of the way.
func goesOn(t *testing.T, r impl.RestartAnswer, updated impl.Stable) {
	t.Helper()
	if again := impl.Restart(r.Disk); again.Code != 0 || !sameStable(again.Stable, r.Stable) || !sameDisk(again.Disk, r.Disk) || r.Disk.Synced != len(r.Disk.Data) {
		t.Fatalf("a second restart: %+v, not %+v", again, r)
	}
	p := impl.PlanRecords(r.Stable, updated)
	w := impl.DiskWrite(r.Disk, p.Records)
	if last := impl.Restart(w.Disk); p.Code != 0 || w.Code != 0 || !sameStable(last.Stable, updated) {
		t.Fatalf("from %+v on: %+v", r.Stable, last)
	}
}

func TestP3Pairs(t *testing.T) {
	states := stateSamples()
	for _, old := range states {
		for _, updated := range states {
			p := impl.PlanRecords(old, updated)
			follows := updated.Term > old.Term || updated.Term == old.Term && (old.Vote == 0 || old.Vote == updated.Vote)
			if (p.Code == 0) != follows {
				t.Fatalf("from %+v to %+v: code %d", old, updated, p.Code)
			}
			if p.Code == 0 {
				checkPair(t, old, updated)
			}
		}
	}
}

func TestP3LongLogs(t *testing.T) {
	old := impl.Stable{Term: 7, Vote: 1}
	for i := range 100 {
		old.Log = append(old.Log, putEntry(1+i/20, i+1, letters(i%65)))
	}
	for _, n := range []int{0, 1, 50, 99, 100} {
		updated := impl.Stable{Term: 8, Vote: 3, Log: slices.Clone(old.Log[:n])}
		for i := range 5 {
			updated.Log = append(updated.Log, putEntry(8, i+1, "new"))
		}
		checkPair(t, old, updated)
	}
	checkPair(t, old, impl.Stable{Term: 7, Vote: 1})
}

// A disk that went through many writes, crashes and restarts holds at least what was synced.
func TestP3ManyCrashes(t *testing.T) {
	random := rand.New(rand.NewSource(5))
	states := stateSamples()
	for range 300 {
		now, d := impl.Stable{}, impl.Disk{Cap: impl.MaxDisk}
		for range 30 {
			next := states[random.Intn(len(states))]
			p := impl.PlanRecords(now, next)
			if p.Code != 0 {
				continue
			}
			d = impl.DiskWrite(d, p.Records).Disk
			if random.Intn(2) == 0 {
				d = impl.DiskSync(d)
				now = next
			}
			r := impl.Restart(impl.DiskCrash(d, random.Intn(len(d.Data)-d.Synced+1)))
			if r.Code != 0 || !between(r.Stable, now, next) {
				t.Fatalf("from %+v to %+v: %+v", now, next, r)
			}
			now, d = r.Stable, r.Disk
		}
	}
}
