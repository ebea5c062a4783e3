package tests

import (
	"math"
	"slices"
	"testing"

	"loop.example/s01586/impl"
)

// checkRecord holds a record, alone and among others, against EncodeRecords and DiskWrite.
func checkRecord(t *testing.T, r impl.Record, fits bool) {
	t.Helper()
	others := []impl.Record{hard(1, 1), cut(0)}
	for _, rs := range [][]impl.Record{{r}, {others[0], r}, {r, others[1]}, {others[0], r, others[1]}} {
		got := impl.EncodeRecords(rs)
		w := impl.DiskWrite(impl.Disk{Cap: 1000}, rs)
		if !fits {
			if len(got) != 0 || w.Code != 2 || !sameDisk(w.Disk, impl.Disk{Cap: 1000}) {
				t.Errorf("%+v is ill-formed: %x, %+v", r, got, w)
			}
			continue
		}
		want := journal(rs...)
		if !slices.Equal(got, want) || w.Code != 0 || !sameDisk(w.Disk, impl.Disk{Cap: 1000, Data: want}) {
			t.Errorf("%+v: %x, not %x; %+v", r, got, want, w)
		}
	}
}

// checkStored holds a record that the disk may hold, well-formed or not, against all of it.
func checkStored(t *testing.T, r impl.Record, fits bool) {
	t.Helper()
	checkRecord(t, r, fits)
	if !fits && onWire(r.Term, r.Vote, r.Index, r.Entry.Term, r.Entry.Cmd.Client, r.Entry.Cmd.Seq, r.Entry.Cmd.Op) {
		wantStop(t, "an ill-formed record", nil, impl.Stable{}, journal(r), 4)
	}
}

func TestRecordsHard(t *testing.T) {
	for _, n := range edges {
		checkStored(t, hard(n, 0), n >= 0 && n <= impl.MaxTerm)
		checkStored(t, hard(1, n), n >= 0 && n <= impl.MaxServers)
		checkStored(t, hard(0, n), n == 0)
		r := hard(3, 2)
		r.Index = n
		checkRecord(t, r, n == 0)
		r = hard(3, 2)
		r.Entry.Term = n
		checkRecord(t, r, n == 0)
	}
	r := hard(3, 2)
	r.Entry.Cmd.Old = "x"
	checkRecord(t, r, false)
	checkStored(t, hard(impl.MaxTerm, impl.MaxServers), true)
	checkStored(t, hard(impl.MaxTerm+1, impl.MaxServers+1), false)
}

func TestRecordsAdd(t *testing.T) {
	for _, n := range edges {
		checkStored(t, add(n, 1), n >= 1 && n <= impl.MaxLog)
		checkStored(t, add(1, n), n >= 1 && n <= impl.MaxTerm)
		r := add(1, 1)
		r.Term = n
		checkRecord(t, r, n == 0)
		r = add(1, 1)
		r.Vote = n
		checkRecord(t, r, n == 0)
	}
	for _, c := range cmdSamples() {
		checkStored(t, impl.Record{Kind: impl.RecAdd, Index: 1, Entry: impl.Entry{Term: 1, Cmd: c}}, true)
	}
	for _, c := range []impl.Cmd{
		{Client: 1}, {Seq: 1}, {Key: "k"}, {Op: 5}, {Client: 9, Seq: 1, Op: 1, Key: "k"}, {Client: 1, Op: 1, Key: "k"},
		{Client: 1, Seq: 1, Op: 1}, {Client: 1, Seq: 1, Op: 1, Key: "k", Val: "v"}, {Client: 1, Seq: 1, Op: 2, Key: "k", Old: "o"},
		{Client: 1, Seq: 1, Op: 4, Key: letters(65)}, {Client: 1, Seq: 1, Op: 4, Key: "k", Val: letters(65)}, {Client: 1, Seq: 1, Op: 4, Key: "k", Old: letters(65)},
	} {
		checkStored(t, impl.Record{Kind: impl.RecAdd, Index: 1, Entry: impl.Entry{Term: 1, Cmd: c}}, false)
	}
}

func TestRecordsCut(t *testing.T) {
	for _, n := range edges {
		checkStored(t, cut(n), n >= 0 && n <= impl.MaxLog)
		r := cut(2)
		r.Term = n
		checkRecord(t, r, n == 0)
		r = cut(2)
		r.Vote = n
		checkRecord(t, r, n == 0)
		r = cut(2)
		r.Entry.Term = n
		checkRecord(t, r, n == 0)
	}
	r := cut(0)
	r.Entry.Cmd.Key = "x"
	checkRecord(t, r, false)
}

func TestRecordsOfOtherKinds(t *testing.T) {
	for _, n := range []int{math.MinInt, -1, 0, 4, 11, 12, 13, 257, 258, 259, math.MaxInt} {
		for _, r := range []impl.Record{{}, hard(1, 1), add(1, 1), cut(1)} {
			r.Kind = n
			checkRecord(t, r, false)
		}
	}
}

func TestRecordsAreOneBehindTheOther(t *testing.T) {
	if len(impl.EncodeRecords(nil)) != 0 || len(impl.EncodeRecords([]impl.Record{})) != 0 {
		t.Error("no records have bytes")
	}
	var rs []impl.Record
	for i := range impl.MaxRecords {
		rs = append(rs, []impl.Record{hard(i, i%7), add(1+i%impl.MaxLog, 1+i), cut(i % impl.MaxLog)}[i%3])
	}
	want := journal(rs...)
	if got := impl.EncodeRecords(rs); !slices.Equal(got, want) {
		t.Errorf("%d bytes, not %d", len(got), len(want))
	}
	if w := impl.DiskWrite(impl.Disk{Cap: impl.MaxDisk}, rs); w.Code != 0 || !slices.Equal(w.Disk.Data, want) {
		t.Errorf("MaxRecords records: code %d", w.Code)
	}
	rs = append(rs, cut(0))
	if len(impl.EncodeRecords(rs)) != 0 {
		t.Error("MaxRecords + 1 records have bytes")
	}
	if w := impl.DiskWrite(impl.Disk{Cap: impl.MaxDisk}, rs); w.Code != 2 || !sameDisk(w.Disk, impl.Disk{Cap: impl.MaxDisk}) {
		t.Errorf("MaxRecords + 1 records: code %d", w.Code)
	}
}
