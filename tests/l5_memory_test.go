package tests

import (
	"slices"
	"testing"

	"loop.example/s01586/impl"
)

// Chapter 0 for the table: a table and a log, and the room behind their ends, are only read; an answer is new memory, and its two lists share none.

func spoilPairs(list []impl.Pair) {
	list = list[:cap(list)]
	for i := range list {
		list[i] = impl.Pair{Key: "spoilt"}
	}
}

func spoilSessions(list []impl.Session) {
	list = list[:cap(list)]
	for i := range list {
		list[i] = impl.Session{Client: 77}
	}
}

// tableCmds: commands that bring tableIn to each of its answers.
func tableCmds() []impl.Cmd {
	return []impl.Cmd{
		{}, {Op: 9}, getOf(2, 1, "b"), getOf(2, 5, "b"), getOf(2, 6, "b"), getOf(1, 1, "none"), putOf(2, 6, "b", "new"), putOf(1, 1, "a", "new"), putOf(8, 1, "z", "new"),
		delOf(2, 6, "b"), delOf(1, 1, "f"), delOf(1, 1, "none"), casOf(2, 6, "b", "1", "new"), casOf(1, 1, "b", "2", "new"), casOf(1, 1, "none", "2", "new"),
	}
}

func TestApplyIsNewMemory(t *testing.T) {
	for _, c := range tableCmds() {
		pairs, wholePairs := roomy(tableIn().Pairs, pairsOf("y=1", "z=2")...)
		sessions, wholeSessions := roomy(tableIn().Sessions, impl.Session{Client: 8}, impl.Session{Client: 9})
		pairsBefore, sessionsBefore := slices.Clone(wholePairs), slices.Clone(wholeSessions)
		a := impl.ApplyCmd(impl.Table{Pairs: pairs, Sessions: sessions}, c)
		if !slices.Equal(wholePairs, pairsBefore) || !slices.Equal(wholeSessions, sessionsBefore) {
			t.Fatalf("the table was written into by %+v", c)
		}
		want := cloneTable(a.Table)
		spoilPairs(wholePairs)
		spoilSessions(wholeSessions)
		if !sameTable(a.Table, want) {
			t.Fatalf("the answer shares memory with the table, by %+v", c)
		}
		spoilPairs(a.Table.Pairs)
		if !slices.Equal(a.Table.Sessions, want.Sessions) {
			t.Fatalf("the lists share memory, by %+v", c)
		}
	}
}

func TestApplyIsTheSameAgain(t *testing.T) {
	full := impl.Table{Pairs: fullPairs(impl.MaxPairs - 1), Sessions: tableIn().Sessions}
	for _, tab := range []impl.Table{tableIn(), full} {
		for _, c := range tableCmds() {
			want := impl.ApplyCmd(tab, c)
			for range 10 {
				if got := impl.ApplyCmd(tab, c); !sameApply(got, want) {
					t.Fatalf("%s, and %s", told(got), told(want))
				}
			}
		}
	}
}

func TestApplyLogIsNewMemory(t *testing.T) {
	log, whole := roomy([]impl.Entry{putEntry(1, 1, "a"), {Term: 1}, putEntry(2, 2, "b")}, blanks(9, 9)...)
	before := slices.Clone(whole)
	got := impl.ApplyLog(log, 3)
	if !slices.Equal(whole, before) {
		t.Error("the log was written into")
	}
	want := cloneTable(got)
	spoilEntries(whole)
	if !sameTable(got, want) {
		t.Error("the table shares memory with the log")
	}
}

// An empty list and no list are the same to the table.
func TestTablesWithEmptyLists(t *testing.T) {
	for _, c := range tableCmds() {
		a, b := impl.ApplyCmd(impl.Table{}, c), impl.ApplyCmd(impl.Table{Pairs: []impl.Pair{}, Sessions: []impl.Session{}}, c)
		if !sameApply(a, b) {
			t.Errorf("%s, and %s", told(a), told(b))
		}
	}
	if got := impl.ApplyLog([]impl.Entry{}, 0); !sameTable(got, impl.Table{}) {
		t.Errorf("%s", told(got))
	}
}
