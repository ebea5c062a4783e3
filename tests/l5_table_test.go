package tests

import (
	"math/rand"
	"slices"
	"strings"
	"testing"

	"loop.example/s01586/impl"
)

// wantTable checks whether a table is taken as well-formed, by commands of every kind.
func wantTable(t *testing.T, what string, tab impl.Table, fits bool) {
	t.Helper()
	for _, c := range []impl.Cmd{putOf(1, 1, "k", "v"), getOf(7, 1, "b"), {}, {Op: 9}, getOf(2, 5, "b"), getOf(2, 1, "b")} {
		got := impl.ApplyCmd(tab, c)
		if (got.Code != 9) != fits {
			t.Errorf("%s: code %d by %+v", what, got.Code, c)
		}
		if !fits && !sameApply(got, impl.ApplyAnswer{Code: 9}) {
			t.Errorf("%s: not all else is zero: %s", what, told(got))
		}
	}
}

func TestTablePairs(t *testing.T) {
	wantTable(t, "no pairs", impl.Table{}, true)
	wantTable(t, "three pairs", tableIn(), true)
	wantTable(t, "MaxPairs", impl.Table{Pairs: fullPairs(impl.MaxPairs)}, true)
	wantTable(t, "MaxPairs + 1", impl.Table{Pairs: fullPairs(impl.MaxPairs + 1)}, false)
	for _, words := range []string{"b b", "c b", "b d d", "b d c", "b a d", "a\xff a", "a aa a", "b B"} {
		wantTable(t, words, impl.Table{Pairs: pairsOf(strings.Fields(words)...)}, false)
	}
	for _, words := range []string{"b", "b d f", "a aa b", "B b", "a a\x00 a\xff \xff"} {
		wantTable(t, words, impl.Table{Pairs: pairsOf(strings.Fields(words)...)}, true)
	}
	for at := range 3 {
		for _, n := range []int{0, 1, impl.MaxText, impl.MaxText + 1} {
			tab := tableIn()
			tab.Pairs[at].Val = letters(n)
			wantTable(t, "a value", tab, n <= impl.MaxText)
			if n > 0 {
				tab = tableIn()
				tab.Pairs[at].Key += letters(n - 1)
				wantTable(t, "a key", tab, n <= impl.MaxText)
			}
		}
		tab := tableIn()
		tab.Pairs[at].Key = ""
		wantTable(t, "an empty key", tab, false)
		wantTable(t, "only an empty key", impl.Table{Pairs: []impl.Pair{{}}}, false)
	}
}

func TestTableSessions(t *testing.T) {
	clients := func(ids ...int) impl.Table {
		var tab impl.Table
		for _, id := range ids {
			tab.Sessions = append(tab.Sessions, impl.Session{Client: id, Seq: 1, Code: 1})
		}
		return tab
	}
	for _, ids := range [][]int{{1}, {8}, {1, 2}, {1, 8}, {1, 2, 3, 4, 5, 6, 7, 8}} {
		wantTable(t, "clients", clients(ids...), true)
	}
	for _, ids := range [][]int{{0}, {-1}, {9}, {0, 1}, {8, 9}, {1, 1}, {2, 1}, {1, 3, 3}, {1, 3, 2}, {3, 1, 2}, {1, 2, 3, 4, 5, 6, 7, 8, 9}, {1, 2, 3, 4, 5, 6, 7, 8, 8}, {edges[0]}, {edges[len(edges)-1]}} {
		wantTable(t, "clients", clients(ids...), false)
	}
	for at := range 3 {
		for _, n := range []int{edges[0], -1, 0, 1, 2, impl.MaxSeq - 1, impl.MaxSeq, impl.MaxSeq + 1, edges[len(edges)-1]} {
			tab := tableIn()
			tab.Sessions[at].Seq = n
			wantTable(t, "a number", tab, n >= 1 && n <= impl.MaxSeq)
		}
		for _, n := range []int{edges[0], -1, 0, 1, 2, 3, 4, 5, edges[len(edges)-1]} {
			tab := tableIn()
			tab.Sessions[at].Code = n
			wantTable(t, "a code", tab, n >= 1 && n <= 4)
		}
		for _, n := range []int{0, 1, impl.MaxText, impl.MaxText + 1} {
			tab := tableIn()
			tab.Sessions[at].Val = letters(n)
			wantTable(t, "a session's value", tab, n <= impl.MaxText)
		}
	}
}

// Where nothing is carried out, the table is as it was; only a command that comes again has a result.
func TestApplyCodes(t *testing.T) {
	want := func(what string, c impl.Cmd, a impl.ApplyAnswer) {
		t.Helper()
		for _, pairs := range [][]impl.Pair{nil, tableIn().Pairs, fullPairs(impl.MaxPairs)} {
			tab := tableIn()
			tab.Pairs = pairs
			a.Table = tab
			if got := impl.ApplyCmd(tab, c); !sameApply(got, a) {
				t.Errorf("%s: %s, not %s", what, told(got), told(a))
			}
		}
	}
	for _, c := range []impl.Cmd{{Op: 5}, {Op: -1}, {Client: 1}, {Seq: 1}, {Key: "k"}, getOf(0, 1, "b"), getOf(9, 1, "b"), getOf(2, 0, "b"), getOf(2, impl.MaxSeq+1, "b"), getOf(2, 6, ""),
		{Client: 2, Seq: 5, Op: impl.OpGet, Key: "b", Val: "v"}, {Client: 2, Seq: 4, Op: impl.OpPut, Key: "b", Old: "v"}, putOf(2, 6, "b", letters(65))} {
		want("ill-formed", c, impl.ApplyAnswer{Code: 8})
	}
	want("the zero command", impl.Cmd{}, impl.ApplyAnswer{Code: 1})
	for _, c := range []impl.Cmd{getOf(2, 4, "b"), putOf(2, 1, "b", "x"), delOf(6, impl.MaxSeq-1, "b"), casOf(6, 1, "b", "1", "2")} {
		want("behind its session", c, impl.ApplyAnswer{Code: 3})
	}
	for _, c := range []impl.Cmd{getOf(2, 5, "b"), putOf(2, 5, "new", "x"), delOf(2, 5, "d"), casOf(2, 5, "b", "1", "2")} {
		want("a second time", c, impl.ApplyAnswer{Code: 2, Result: impl.ResDone, Val: "two"})
	}
	want("a second time", putOf(4, 1, "b", "x"), impl.ApplyAnswer{Code: 2, Result: impl.ResMissing})
	want("a second time", delOf(6, impl.MaxSeq, "b"), impl.ApplyAnswer{Code: 2, Result: impl.ResFull, Val: "six"})
}

// Each Op with the key there and not there, by a client with a session and by one without.
func TestApplyOps(t *testing.T) {
	tab := tableIn()
	for _, id := range [][2]int{{2, 6}, {2, impl.MaxSeq}, {4, 2}, {1, 1}, {3, 7}, {8, impl.MaxSeq}} {
		client, seq := id[0], id[1]
		wantDone(t, "get", tab, getOf(client, seq, "d"), impl.ResDone, "2", tab.Pairs)
		wantDone(t, "get an empty value", tab, getOf(client, seq, "f"), impl.ResDone, "", tab.Pairs)
		wantDone(t, "get nothing", tab, getOf(client, seq, "c"), impl.ResMissing, "", tab.Pairs)
		wantDone(t, "put", tab, putOf(client, seq, "d", "x"), impl.ResDone, "", pairsOf("b=1", "d=x", "f="))
		wantDone(t, "put an empty value", tab, putOf(client, seq, "d", ""), impl.ResDone, "", pairsOf("b=1", "d=", "f="))
		wantDone(t, "put the same", tab, putOf(client, seq, "d", "2"), impl.ResDone, "", tab.Pairs)
		wantDone(t, "put a new key", tab, putOf(client, seq, "c", "x"), impl.ResDone, "", pairsOf("b=1", "c=x", "d=2", "f="))
		wantDone(t, "del", tab, delOf(client, seq, "d"), impl.ResDone, "2", pairsOf("b=1", "f="))
		wantDone(t, "del nothing", tab, delOf(client, seq, "c"), impl.ResMissing, "", tab.Pairs)
		wantDone(t, "cas", tab, casOf(client, seq, "d", "2", "x"), impl.ResDone, "", pairsOf("b=1", "d=x", "f="))
		wantDone(t, "cas to nothing", tab, casOf(client, seq, "d", "2", ""), impl.ResDone, "", pairsOf("b=1", "d=", "f="))
		wantDone(t, "cas from nothing", tab, casOf(client, seq, "f", "", "x"), impl.ResDone, "", pairsOf("b=1", "d=2", "f=x"))
		wantDone(t, "cas of another", tab, casOf(client, seq, "d", "3", "x"), impl.ResDiffers, "2", tab.Pairs)
		wantDone(t, "cas of another, empty", tab, casOf(client, seq, "f", "3", "x"), impl.ResDiffers, "", tab.Pairs)
		wantDone(t, "cas against nothing", tab, casOf(client, seq, "d", "", "x"), impl.ResDiffers, "2", tab.Pairs)
		wantDone(t, "cas of no key", tab, casOf(client, seq, "c", "", "x"), impl.ResMissing, "", tab.Pairs)
	}
	long := impl.Cmd{Client: 1, Seq: 1, Op: impl.OpPut, Key: letters(64), Val: letters(64)}
	wantDone(t, "the longest texts", impl.Table{}, long, impl.ResDone, "", []impl.Pair{{Key: letters(64), Val: letters(64)}})
}

func TestApplyToAFullTable(t *testing.T) {
	all := fullPairs(impl.MaxPairs)
	full := impl.Table{Pairs: all, Sessions: tableIn().Sessions}
	for _, key := range []string{"a", "ab0", "zz"} {
		wantDone(t, "a new key", full, putOf(2, 6, key, "x"), impl.ResFull, "", all)
		wantDone(t, "a new key, no session yet", full, putOf(1, 1, key, ""), impl.ResFull, "", all)
		wantDone(t, "no key", full, casOf(1, 1, key, "", ""), impl.ResMissing, "", all)
		less := impl.Table{Pairs: all[:impl.MaxPairs-1], Sessions: full.Sessions}
		more := append(slices.Clone(less.Pairs), impl.Pair{Key: key, Val: "x"})
		slices.SortFunc(more, func(a, b impl.Pair) int { return strings.Compare(a.Key, b.Key) })
		wantDone(t, "the last new key", less, putOf(2, 6, key, "x"), impl.ResDone, "", more)
	}
	for _, at := range []int{0, 100, impl.MaxPairs - 1} {
		changed := slices.Clone(all)
		changed[at].Val = "x"
		wantDone(t, "a key that is there", full, putOf(2, 6, all[at].Key, "x"), impl.ResDone, "", changed)
		wantDone(t, "a key that is there", full, casOf(2, 6, all[at].Key, "v", "x"), impl.ResDone, "", changed)
		wantDone(t, "a pair goes", full, delOf(2, 6, all[at].Key), impl.ResDone, "v", slices.Concat(all[:at], all[at+1:]))
	}
}

// A pair goes from, and comes to, any place; a new session stands at its place.
func TestApplyPlaces(t *testing.T) {
	tab := tableIn()
	wantDone(t, "the first goes", tab, delOf(2, 6, "b"), impl.ResDone, "1", pairsOf("d=2", "f="))
	wantDone(t, "the middle goes", tab, delOf(2, 6, "d"), impl.ResDone, "2", pairsOf("b=1", "f="))
	wantDone(t, "the last goes", tab, delOf(2, 6, "f"), impl.ResDone, "", pairsOf("b=1", "d=2"))
	only := impl.Table{Pairs: pairsOf("k=v")}
	wantDone(t, "the only one goes", only, delOf(2, 6, "k"), impl.ResDone, "v", nil)
	wantDone(t, "ahead of all", tab, putOf(2, 6, "a", "x"), impl.ResDone, "", pairsOf("a=x", "b=1", "d=2", "f="))
	wantDone(t, "within", tab, putOf(2, 6, "e", "x"), impl.ResDone, "", pairsOf("b=1", "d=2", "e=x", "f="))
	wantDone(t, "behind all", tab, putOf(2, 6, "ff", "x"), impl.ResDone, "", pairsOf("b=1", "d=2", "f=", "ff=x"))
	wantDone(t, "bytes", tab, putOf(2, 6, "\xff", "x"), impl.ResDone, "", pairsOf("b=1", "d=2", "f=", "\xff=x"))
	wantDone(t, "bytes", tab, putOf(2, 6, "\x00", "x"), impl.ResDone, "", pairsOf("\x00=x", "b=1", "d=2", "f="))
	wantDone(t, "into none", impl.Table{}, putOf(2, 6, "k", "x"), impl.ResDone, "", pairsOf("k=x"))
	for _, client := range []int{1, 3, 5, 7, 8} {
		wantDone(t, "a session's place", tab, getOf(client, 3, "b"), impl.ResDone, "1", tab.Pairs)
	}
}

// Drawn commands, one behind another, against the model.
func TestApplyDrawn(t *testing.T) {
	random := rand.New(rand.NewSource(51))
	seen := map[[2]int]int{}
	for range 300 {
		tab := impl.Table{}
		if oneIn(random, 4) {
			tab.Pairs = fullPairs(impl.MaxPairs - random.Intn(3))
		}
		for range 40 {
			c := drawCmd(random, 3, 12)
			got, want := impl.ApplyCmd(tab, c), modelApplyCmd(tab, c)
			if !sameApply(got, want) {
				t.Fatalf("%s, not %s, by %+v", told(got), told(want), c)
			}
			seen[[2]int{got.Code, got.Result}]++
			tab = got.Table
		}
	}
	for _, what := range [][2]int{{0, 1}, {0, 2}, {0, 3}, {0, 4}, {1, 0}, {2, 1}, {2, 2}, {3, 0}, {8, 0}} {
		if seen[what] < 20 {
			t.Errorf("code and result %v only %d times", what, seen[what])
		}
	}
}

func TestApplyLogPlaces(t *testing.T) {
	log := []impl.Entry{{Term: 1}, {Term: 1, Cmd: putOf(1, 1, "b", "1")}, {Term: 1, Cmd: putOf(1, 1, "b", "2")}, {Term: 2, Cmd: putOf(2, 9, "a", "3")}, {Term: 2}, {Term: 3, Cmd: delOf(1, 2, "b")}}
	first := impl.Session{Client: 1, Seq: 1, Code: impl.ResDone}
	second := impl.Session{Client: 2, Seq: 9, Code: impl.ResDone}
	tables := []impl.Table{
		{}, {}, {Pairs: pairsOf("b=1"), Sessions: []impl.Session{first}}, {Pairs: pairsOf("b=1"), Sessions: []impl.Session{first}},
		{Pairs: pairsOf("a=3", "b=1"), Sessions: []impl.Session{first, second}}, {Pairs: pairsOf("a=3", "b=1"), Sessions: []impl.Session{first, second}},
		{Pairs: pairsOf("a=3"), Sessions: []impl.Session{{Client: 1, Seq: 2, Code: impl.ResDone, Val: "1"}, second}},
	}
	for upto, want := range tables {
		if got := impl.ApplyLog(log, upto); !sameTable(got, want) {
			t.Errorf("upto %d: %s, not %s", upto, told(got), told(want))
		}
	}
	for _, upto := range []int{len(log) + 1, impl.MaxLog + 1, edges[len(edges)-1]} {
		if got := impl.ApplyLog(log, upto); !sameTable(got, tables[len(log)]) {
			t.Errorf("upto %d: %s", upto, told(got))
		}
	}
	for _, upto := range []int{-1, -len(log), edges[0]} {
		if got := impl.ApplyLog(log, upto); !sameTable(got, impl.Table{}) {
			t.Errorf("upto %d: %s", upto, told(got))
		}
	}
	if got := impl.ApplyLog(nil, 3); !sameTable(got, impl.Table{}) {
		t.Errorf("no log: %s", told(got))
	}
}

func TestApplyLogLimits(t *testing.T) {
	long := longLog(impl.MaxLog+1, 1)
	want := impl.Table{Pairs: pairsOf("k="), Sessions: []impl.Session{{Client: 1, Seq: impl.MaxLog, Code: impl.ResDone}}}
	if got := impl.ApplyLog(long[:impl.MaxLog], impl.MaxLog); !sameTable(got, want) {
		t.Errorf("MaxLog entries: %s", told(got))
	}
	for _, upto := range []int{-1, 0, 1, impl.MaxLog, impl.MaxLog + 1} {
		if got := impl.ApplyLog(long, upto); !sameTable(got, impl.Table{}) {
			t.Errorf("MaxLog + 1 entries: %s", told(got))
		}
	}
	for _, bad := range []impl.Entry{{}, {Term: -1}, {Term: impl.MaxTerm + 1}, {Term: 1, Cmd: impl.Cmd{Op: 5}}, {Term: 1, Cmd: impl.Cmd{Client: 1}}, {Term: 1, Cmd: getOf(9, 1, "k")}, {Term: 1, Cmd: getOf(1, 1, "")}} {
		for at := range 5 {
			log := longLog(5, 1)
			log[at] = bad
			for upto := -1; upto <= 6; upto++ {
				if got := impl.ApplyLog(log, upto); !sameTable(got, impl.Table{}) {
					t.Errorf("%+v at %d, upto %d: %s", bad, at, upto, told(got))
				}
			}
		}
	}
	// Each entry is looked at by itself: that terms fall is no fault of an entry.
	falling := []impl.Entry{putEntry(impl.MaxTerm, 1, "a"), putEntry(1, 2, "b")}
	if got := impl.ApplyLog(falling, 2); len(got.Pairs) != 1 || got.Pairs[0].Val != "b" {
		t.Errorf("falling terms: %s", told(got))
	}
}

// A log applied at once is its commands applied one by one.
func TestApplyLogIsApplyCmd(t *testing.T) {
	random := rand.New(rand.NewSource(52))
	for range 200 {
		var log []impl.Entry
		for range random.Intn(60) {
			if c := drawCmd(random, 8, 9); impl.CmdFault(c) == 0 {
				log = append(log, impl.Entry{Term: 1 + random.Intn(3), Cmd: c})
			}
		}
		tab := impl.Table{}
		for i, e := range log {
			if got := impl.ApplyLog(log, i); !sameTable(got, tab) {
				t.Fatalf("upto %d: %s, not %s", i, told(got), told(tab))
			}
			tab = modelApplyCmd(tab, e.Cmd).Table
		}
		if got := impl.ApplyLog(log, len(log)); !sameTable(got, tab) {
			t.Fatalf("the whole log: %s, not %s", told(got), told(tab))
		}
	}
}
