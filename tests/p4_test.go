package tests

import (
	"math"
	"math/rand"
	"slices"
	"testing"

	"loop.example/s01586/impl"
)

// Promise 4: a write is all or nothing and never beyond Cap; what is synced stays.

func diskOf(room, synced int, rs ...impl.Record) impl.Disk {
	data := journal(rs...)
	return impl.Disk{Cap: len(data) + room, Synced: min(synced, len(data)), Data: data}
}

func wantWrite(t *testing.T, d impl.Disk, rs []impl.Record, code int) {
	t.Helper()
	want := impl.DiskAnswer{Code: code, Disk: d}
	switch code {
	case 0:
		want.Disk.Data = slices.Concat(d.Data, journal(rs...))
	case 1:
		want.Disk = impl.Disk{}
	}
	if got := impl.DiskWrite(d, rs); got.Code != code || !sameDisk(got.Disk, want.Disk) {
		t.Errorf("writing %+v on %+v: %+v, not %+v", rs, d, got, want)
	}
}

func TestP4Writes(t *testing.T) {
	lists := [][]impl.Record{nil, {cut(0)}, {hard(1, 1)}, {hard(300, 1), cut(0)}, {add(1, 1), add(2, 1), add(3, impl.MaxTerm)}, {hard(2, 1), cut(4), add(5, 2)}}
	for _, held := range lists {
		for _, rs := range lists {
			size := len(journal(rs...))
			for _, synced := range []int{0, 1, 10, math.MaxInt} {
				for room := range size + 3 {
					code := 0
					if room < size {
						code = 3
					}
					wantWrite(t, diskOf(room, synced, held...), rs, code)
				}
			}
		}
	}
}

func TestP4TheGreatestDisk(t *testing.T) {
	d := impl.Disk{Cap: impl.MaxDisk, Synced: 5, Data: make([]byte, impl.MaxDisk-11)}
	wantWrite(t, d, []impl.Record{hard(3, 2)}, 0)
	wantWrite(t, d, []impl.Record{hard(300, 2)}, 3)
	wantWrite(t, d, []impl.Record{cut(0), cut(0)}, 3)
	wantWrite(t, d, nil, 0)
	d.Data = make([]byte, impl.MaxDisk)
	wantWrite(t, d, nil, 0)
	wantWrite(t, d, []impl.Record{cut(0)}, 3)
	var rs []impl.Record
	for i := range impl.MaxRecords {
		c := impl.Cmd{Client: 8, Seq: impl.MaxSeq, Op: impl.OpCas, Key: letters(64), Val: letters(64), Old: letters(64)}
		rs = append(rs, impl.Record{Kind: impl.RecAdd, Index: 1 + i%impl.MaxLog, Entry: impl.Entry{Term: 1, Cmd: c}})
	}
	wantWrite(t, impl.Disk{Cap: impl.MaxDisk}, rs, 3)
	fit := impl.MaxDisk / len(journal(rs[4000]))
	wantWrite(t, impl.Disk{Cap: impl.MaxDisk}, rs[:fit], 0)
	wantWrite(t, impl.Disk{Cap: len(journal(rs[:fit]...)) - 1}, rs[:fit], 3)
}

func TestP4IllFormedRecords(t *testing.T) {
	many := slices.Repeat([]impl.Record{cut(0)}, impl.MaxRecords+1)
	ill := [][]impl.Record{{{}}, {hard(0, 1)}, {cut(0), add(0, 1)}, {add(1, 0), cut(0)}, {cut(-1)}, many}
	for _, rs := range ill {
		for _, d := range []impl.Disk{diskOf(impl.MaxDisk-11, 3, hard(1, 1)), diskOf(0, 11, hard(1, 1)), diskOf(5, 0), {}} {
			wantWrite(t, d, rs, 2)
		}
	}
	wantWrite(t, impl.Disk{Cap: 10 * impl.MaxRecords}, many[1:], 0)
	wantWrite(t, impl.Disk{Cap: 10*impl.MaxRecords - 1}, many[1:], 3)
}

func illDisks() []impl.Disk {
	data := journal(hard(1, 1))
	return []impl.Disk{
		{Cap: -1}, {Cap: math.MinInt}, {Cap: impl.MaxDisk + 1}, {Cap: math.MaxInt},
		{Cap: 10, Data: data}, {Cap: 0, Data: data}, {Cap: impl.MaxDisk, Data: make([]byte, impl.MaxDisk+1)},
		{Cap: 20, Synced: -1, Data: data}, {Cap: 20, Synced: 12, Data: data}, {Cap: 20, Synced: math.MinInt, Data: data}, {Cap: 20, Synced: math.MaxInt, Data: data},
		{Cap: 20, Synced: 1},
	}
}

func TestP4IllFormedDisks(t *testing.T) {
	for _, d := range illDisks() {
		for _, rs := range [][]impl.Record{nil, {hard(1, 1)}, {{}}} {
			wantWrite(t, d, rs, 1)
		}
		for _, got := range []impl.Disk{impl.DiskSync(d), impl.DiskCrash(d, 0), impl.DiskCrash(d, 5)} {
			if !sameDisk(got, impl.Disk{}) {
				t.Errorf("%+v: %+v", d, got)
			}
		}
		r := impl.Restart(d)
		if r.Code != 1 || !sameDisk(r.Disk, impl.Disk{}) || !sameStable(r.Stable, impl.Stable{}) {
			t.Errorf("%+v restarts as %+v", d, r)
		}
	}
}

func TestP4SyncAndCrash(t *testing.T) {
	data := journal(hard(3, 2), add(1, 3))
	for synced := range len(data) + 1 {
		d := impl.Disk{Cap: len(data) + synced%3, Synced: synced, Data: data}
		if got := impl.DiskSync(d); !sameDisk(got, impl.Disk{Cap: d.Cap, Synced: len(data), Data: data}) {
			t.Errorf("sync of %+v: %+v", d, got)
		}
		tail := len(data) - synced
		for _, keep := range []int{math.MinInt, -1, 0, 1, tail - 1, tail, tail + 1, len(data), math.MaxInt - 1, math.MaxInt} {
			kept := min(len(data), synced+min(tail, max(0, keep)))
			want := impl.Disk{Cap: d.Cap, Synced: synced, Data: data[:kept]}
			if got := impl.DiskCrash(d, keep); !sameDisk(got, want) {
				t.Errorf("crash of %+v, %d kept: %+v, not %+v", d, keep, got, want)
			}
		}
	}
	if got := impl.DiskSync(impl.Disk{}); !sameDisk(got, impl.Disk{}) {
		t.Errorf("sync of the zero disk: %+v", got)
	}
}

// Any turn of writes, syncs and crashes: synced bytes stay as they are and are never fewer.
func TestP4AnyTurn(t *testing.T) {
	random := rand.New(rand.NewSource(6))
	for range 500 {
		d := impl.Disk{Cap: random.Intn(200)}
		for range 30 {
			before := d
			switch random.Intn(4) {
			case 0:
				d = impl.DiskSync(d)
			case 1:
				d = impl.DiskCrash(d, random.Intn(60)-20)
			default:
				rs := slices.Repeat([]impl.Record{hard(random.Intn(400), 0)}, random.Intn(4))
				w := impl.DiskWrite(d, rs)
				if fits := len(d.Data)+len(journal(rs...)) <= d.Cap; fits != (w.Code == 0) || !fits && w.Code != 3 {
					t.Fatalf("%+v on %+v: code %d", rs, d, w.Code)
				}
				d = w.Disk
			}
			if d.Cap != before.Cap || len(d.Data) > d.Cap || d.Synced < before.Synced || !slices.Equal(d.Data[:before.Synced], before.Data[:before.Synced]) {
				t.Fatalf("%+v became %+v", before, d)
			}
		}
	}
}

func TestRestart(t *testing.T) {
	whole := journal(hard(3, 2), add(1, 1))
	first := len(journal(hard(3, 2)))
	for n := range len(whole) + 1 {
		good, state := 0, impl.Stable{}
		if n >= first {
			good, state = first, stableOf(hard(3, 2))
		}
		if n == len(whole) {
			good, state = n, stableOf(hard(3, 2), add(1, 1))
		}
		for synced := range n + 1 {
			r := impl.Restart(impl.Disk{Cap: 100, Synced: synced, Data: whole[:n]})
			want := impl.RestartAnswer{Disk: impl.Disk{Cap: 100, Synced: good, Data: whole[:good]}, Stable: state}
			if synced > good {
				want = impl.RestartAnswer{Code: 2}
			}
			if r.Code != want.Code || !sameDisk(r.Disk, want.Disk) || !sameStable(r.Stable, want.Stable) {
				t.Errorf("%d bytes, %d synced: %+v, not %+v", n, synced, r, want)
			}
		}
	}
	for _, tail := range [][]byte{make([]byte, 9), seal([]byte{14}), journal(hard(2, 1)), journal(cut(2))} {
		d := impl.Disk{Cap: 200, Synced: len(whole), Data: slices.Concat(whole, tail)}
		if r := impl.Restart(d); r.Code != 0 || !slices.Equal(r.Disk.Data, whole) || r.Disk.Synced != len(whole) || r.Stable.Term != 3 {
			t.Errorf("%x behind: %+v", tail, r)
		}
		d.Synced++
		if r := impl.Restart(d); r.Code != 2 || !sameDisk(r.Disk, impl.Disk{}) || !sameStable(r.Stable, impl.Stable{}) {
			t.Errorf("%x synced: %+v", tail, r)
		}
	}
}
