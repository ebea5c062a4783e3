package tests

import (
	"slices"
	"testing"

	"loop.example/s01586/impl"
)

// Chapter 0 for the journal: an argument, and the room behind its end, is only read; an answer is new memory.

// roomy is a copy of list with room behind its end, and the whole of it.
func roomy[T any](list []T, behind ...T) ([]T, []T) {
	whole := append(slices.Clone(list), behind...)
	return whole[:len(list)], whole
}

func spoilEntries(list []impl.Entry) {
	list = list[:cap(list)]
	for i := range list {
		list[i] = impl.Entry{Term: 77}
	}
}

func TestDisksAreNewMemory(t *testing.T) {
	rs := []impl.Record{hard(9, 1), add(1, 9)}
	data := journal(hard(3, 2), add(1, 1))
	ways := map[string]func(impl.Disk) impl.Disk{
		"write":      func(d impl.Disk) impl.Disk { return impl.DiskWrite(d, rs).Disk },
		"empty":      func(d impl.Disk) impl.Disk { return impl.DiskWrite(d, nil).Disk },
		"ill-formed": func(d impl.Disk) impl.Disk { return impl.DiskWrite(d, []impl.Record{{}}).Disk },
		"full":       func(d impl.Disk) impl.Disk { return impl.DiskWrite(d, slices.Repeat(rs, 50)).Disk },
		"sync":       impl.DiskSync,
		"crash":      func(d impl.Disk) impl.Disk { return impl.DiskCrash(d, 4) },
		"keep all":   func(d impl.Disk) impl.Disk { return impl.DiskCrash(d, 1000) },
		"restart":    func(d impl.Disk) impl.Disk { return impl.Restart(d).Disk },
	}
	for what, way := range ways {
		arg, whole := roomy(data, make([]byte, 100)...)
		before := slices.Clone(whole)
		got := way(impl.Disk{Cap: 300, Synced: 5, Data: arg})
		if len(got.Data) == 0 || !slices.Equal(whole, before) {
			t.Errorf("%s changed the bytes it was given", what)
		}
		want := slices.Clone(got.Data)
		scribble(whole)
		if !slices.Equal(got.Data, want) {
			t.Errorf("%s shares memory with its argument", what)
		}
		copy(whole, before)
		scribble(got.Data[:cap(got.Data)])
		if !slices.Equal(whole, before) {
			t.Errorf("%s gave its argument out", what)
		}
	}
}

func TestStatesAreNewMemory(t *testing.T) {
	data := journal(hard(3, 2), impl.Record{Kind: impl.RecAdd, Index: 1, Entry: putEntry(1, 1, "val")}, add(2, 2), cut(1))
	want := impl.Stable{Term: 3, Vote: 2, Log: []impl.Entry{putEntry(1, 1, "val")}}
	one, two := impl.Recover(data), impl.Restart(impl.Disk{Cap: 500, Data: data})
	scribble(data)
	if !sameStable(one.Stable, want) || !sameStable(two.Stable, want) {
		t.Errorf("%+v, %+v, not %+v", one.Stable, two.Stable, want)
	}
	scribble(two.Disk.Data)
	spoilEntries(one.Stable.Log)
	if !sameStable(two.Stable, want) {
		t.Errorf("%+v, not %+v", two.Stable, want)
	}
}

func TestPlansAreNewMemory(t *testing.T) {
	oldLog, oldWhole := roomy([]impl.Entry{putEntry(1, 1, "a"), putEntry(1, 2, "b")}, blanks(9, 9)...)
	newLog, newWhole := roomy([]impl.Entry{putEntry(1, 1, "a"), putEntry(2, 2, "c"), putEntry(2, 3, "d")}, blanks(8, 8)...)
	oldBefore, newBefore := slices.Clone(oldWhole), slices.Clone(newWhole)
	p := impl.PlanRecords(impl.Stable{Term: 1, Vote: 1, Log: oldLog}, impl.Stable{Term: 2, Log: newLog})
	if !slices.Equal(oldWhole, oldBefore) || !slices.Equal(newWhole, newBefore) {
		t.Error("a log was written into")
	}
	want := slices.Clone(p.Records)
	spoilEntries(oldWhole)
	spoilEntries(newWhole)
	if len(want) != 4 || !slices.Equal(p.Records, want) {
		t.Errorf("%+v, not %+v", p.Records, want)
	}
}

func TestRecordsAreOnlyRead(t *testing.T) {
	rs, whole := roomy([]impl.Record{hard(3, 2), add(1, 1), cut(0)}, hard(7, 7), hard(8, 7))
	before := slices.Clone(whole)
	one := impl.EncodeRecords(rs)
	w := impl.DiskWrite(impl.Disk{Cap: 500}, rs)
	if !slices.Equal(whole, before) {
		t.Error("the records were written into")
	}
	want := slices.Clone(one)
	scribble(one[:cap(one)])
	if again := impl.EncodeRecords(rs); !slices.Equal(again, want) || !slices.Equal(w.Disk.Data, want) {
		t.Errorf("%x and %x, not %x", again, w.Disk.Data, want)
	}
}

func TestNoBytesAndNoListAreEmptyOnes(t *testing.T) {
	if got := impl.Recover([]byte{}); !sameRecovery(got, impl.Recovery{}) {
		t.Errorf("%+v", got)
	}
	empty := impl.Stable{Log: []impl.Entry{}}
	if got := impl.PlanRecords(empty, impl.Stable{}); got.Code != 0 || len(got.Records) != 0 {
		t.Errorf("%+v", got)
	}
	d := impl.Disk{Cap: 11, Data: []byte{}}
	if got := impl.Restart(d); got.Code != 0 || !sameDisk(got.Disk, d) {
		t.Errorf("%+v", got)
	}
}
