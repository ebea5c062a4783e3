package tests

import (
	"math"
	"slices"
	"testing"

	"loop.example/s01586/impl"
)

func samePlan(a, b impl.PlanAnswer) bool {
	return a.Code == b.Code && slices.Equal(a.Records, b.Records)
}

func wantPlan(t *testing.T, old, updated impl.Stable, code int, rs ...impl.Record) {
	t.Helper()
	got := impl.PlanRecords(old, updated)
	if !samePlan(got, impl.PlanAnswer{Code: code, Records: rs}) {
		t.Errorf("from %+v to %+v: %+v, not %d %+v", old, updated, got, code, rs)
	}
}

func TestPlanTermAndVote(t *testing.T) {
	at := func(term, vote int) impl.Stable { return impl.Stable{Term: term, Vote: vote, Log: blanks(1)} }
	wantPlan(t, at(3, 2), at(3, 2), 0)
	wantPlan(t, at(3, 0), at(3, 2), 0, hard(3, 2))
	wantPlan(t, at(3, 2), at(4, 2), 0, hard(4, 2))
	wantPlan(t, at(3, 2), at(4, 0), 0, hard(4, 0))
	wantPlan(t, at(3, 2), at(impl.MaxTerm, 7), 0, hard(impl.MaxTerm, 7))
	wantPlan(t, at(3, 2), at(2, 2), 3)
	wantPlan(t, at(3, 0), at(2, 0), 3)
	wantPlan(t, at(3, 2), at(3, 0), 3)
	wantPlan(t, at(3, 2), at(3, 1), 3)
	wantPlan(t, at(3, 2), at(3, 3), 3)
	wantPlan(t, impl.Stable{}, impl.Stable{}, 0)
	wantPlan(t, impl.Stable{}, impl.Stable{Term: 1, Vote: 7}, 0, hard(1, 7))
	wantPlan(t, impl.Stable{Term: 1}, impl.Stable{}, 3)
}

func TestPlanLogs(t *testing.T) {
	a, b, c, d := putEntry(1, 1, "a"), putEntry(1, 2, "b"), putEntry(2, 3, "c"), putEntry(3, 4, "d")
	at := func(log ...impl.Entry) impl.Stable { return impl.Stable{Term: 3, Vote: 1, Log: log} }
	adds := func(first int, es ...impl.Entry) []impl.Record {
		var out []impl.Record
		for i, e := range es {
			out = append(out, impl.Record{Kind: impl.RecAdd, Index: first + i, Entry: e})
		}
		return out
	}
	wantPlan(t, at(), at(a, b, c), 0, adds(1, a, b, c)...)
	wantPlan(t, at(a), at(a, b, c), 0, adds(2, b, c)...)
	wantPlan(t, at(a, b, c), at(a, b, c), 0)
	wantPlan(t, at(a, b, c), at(a, b), 0, cut(2))
	wantPlan(t, at(a, b, c), at(a), 0, cut(1))
	wantPlan(t, at(a, b, c), at(), 0, cut(0))
	wantPlan(t, at(a, b, c), at(a, b, d), 0, append([]impl.Record{cut(2)}, adds(3, d)...)...)
	wantPlan(t, at(a, b, c), at(a, d), 0, append([]impl.Record{cut(1)}, adds(2, d)...)...)
	wantPlan(t, at(a, b, c), at(b, c, d, d), 0, append([]impl.Record{cut(0)}, adds(1, b, c, d, d)...)...)
	wantPlan(t, at(a, b), at(b, a), 0, append([]impl.Record{cut(0)}, adds(1, b, a)...)...)
	up := at(a, d)
	up.Term, up.Vote = 4, 0
	wantPlan(t, at(a, b, c), up, 0, append([]impl.Record{hard(4, 0), cut(1)}, adds(2, d)...)...)
}

// Two entries are equal only if every field is.
func TestPlanComparesEveryField(t *testing.T) {
	e := impl.Entry{Term: 2, Cmd: impl.Cmd{Client: 1, Seq: 2, Op: impl.OpCas, Key: "k", Val: "v", Old: "o"}}
	for _, bend := range []func(*impl.Entry){
		func(e *impl.Entry) { e.Term = 1 },
		func(e *impl.Entry) { e.Cmd.Client = 2 },
		func(e *impl.Entry) { e.Cmd.Seq = 1 },
		func(e *impl.Entry) { e.Cmd.Op, e.Cmd.Old = impl.OpPut, "" },
		func(e *impl.Entry) { e.Cmd.Key = "K" },
		func(e *impl.Entry) { e.Cmd.Val = "" },
		func(e *impl.Entry) { e.Cmd.Old = "oo" },
		func(e *impl.Entry) { e.Cmd = impl.Cmd{} },
	} {
		other := e
		bend(&other)
		old, updated := impl.Stable{Term: 2, Log: []impl.Entry{e}}, impl.Stable{Term: 2, Log: []impl.Entry{other}}
		wantPlan(t, old, updated, 0, cut(0), impl.Record{Kind: impl.RecAdd, Index: 1, Entry: other})
	}
}

func illStables() []impl.Stable {
	long := make([]impl.Entry, impl.MaxLog+1)
	for i := range long {
		long[i].Term = 1
	}
	bad := blanks(1, 1)
	bad[1].Cmd.Seq = 1
	return []impl.Stable{
		{Term: -1}, {Term: math.MinInt}, {Term: impl.MaxTerm + 1}, {Term: math.MaxInt},
		{Vote: 1}, {Vote: -1}, {Term: 1, Vote: -1}, {Term: 1, Vote: 8}, {Term: 1, Vote: math.MaxInt},
		{Log: blanks(1)}, {Term: 1, Log: blanks(2)}, {Term: 3, Log: blanks(0)}, {Term: 3, Log: blanks(-1, 1)},
		{Term: 3, Log: blanks(2, 1)}, {Term: 3, Log: blanks(1, 3, 2)}, {Term: 3, Log: blanks(1, 2, 3, 4)},
		{Term: 3, Log: bad}, {Term: 3, Log: long},
	}
}

func TestPlanIllFormed(t *testing.T) {
	fine := impl.Stable{Term: impl.MaxTerm, Vote: 7, Log: blanks(1, 1, 2, impl.MaxTerm)}
	wantPlan(t, fine, fine, 0)
	for _, ill := range illStables() {
		wantPlan(t, ill, fine, 1)
		wantPlan(t, ill, ill, 1)
		wantPlan(t, fine, ill, 2)
		wantPlan(t, impl.Stable{}, ill, 2)
	}
	full := impl.Stable{Term: 1, Vote: 1, Log: make([]impl.Entry, impl.MaxLog)}
	for i := range full.Log {
		full.Log[i].Term = 1
	}
	wantPlan(t, full, full, 0)
	got := impl.PlanRecords(impl.Stable{}, full)
	if got.Code != 0 || !slices.Equal(got.Records, recordsOf(full)) {
		t.Errorf("the longest log: code %d, %d records", got.Code, len(got.Records))
	}
}
