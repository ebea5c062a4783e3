package tests

import (
	"math/rand"
	"slices"
	"strings"
	"testing"

	"loop.example/s01586/impl"
)

func sameTable(a, b impl.Table) bool {
	return slices.Equal(a.Pairs, b.Pairs) && slices.Equal(a.Sessions, b.Sessions)
}

func cloneTable(t impl.Table) impl.Table {
	return impl.Table{Pairs: slices.Clone(t.Pairs), Sessions: slices.Clone(t.Sessions)}
}

func sameApply(a, b impl.ApplyAnswer) bool {
	return a.Code == b.Code && a.Result == b.Result && a.Val == b.Val && sameTable(a.Table, b.Table)
}

func getOf(client, seq int, key string) impl.Cmd {
	return impl.Cmd{Client: client, Seq: seq, Op: impl.OpGet, Key: key}
}

func putOf(client, seq int, key, val string) impl.Cmd {
	return impl.Cmd{Client: client, Seq: seq, Op: impl.OpPut, Key: key, Val: val}
}

func delOf(client, seq int, key string) impl.Cmd {
	return impl.Cmd{Client: client, Seq: seq, Op: impl.OpDel, Key: key}
}

func casOf(client, seq int, key, old, val string) impl.Cmd {
	return impl.Cmd{Client: client, Seq: seq, Op: impl.OpCas, Key: key, Old: old, Val: val}
}

// pairsOf: a pair for each word "key=val".
func pairsOf(words ...string) []impl.Pair {
	var out []impl.Pair
	for _, w := range words {
		key, val, _ := strings.Cut(w, "=")
		out = append(out, impl.Pair{Key: key, Val: val})
	}
	return out
}

// tableIn: three pairs and the sessions of the clients 2, 4 and 6.
func tableIn() impl.Table {
	return impl.Table{
		Pairs: pairsOf("b=1", "d=2", "f="),
		Sessions: []impl.Session{
			{Client: 2, Seq: 5, Code: impl.ResDone, Val: "two"},
			{Client: 4, Seq: 1, Code: impl.ResMissing},
			{Client: 6, Seq: impl.MaxSeq, Code: impl.ResFull, Val: "six"},
		},
	}
}

// fullPairs: n pairs with rising keys of two bytes, from "aa" on.
func fullPairs(n int) []impl.Pair {
	var out []impl.Pair
	for i := range n {
		out = append(out, impl.Pair{Key: string([]byte{'a' + byte(i/24), 'a' + byte(i%24)}), Val: "v"})
	}
	return out
}

// withSession: the table with this session of the client, put in at its place.
func withSession(t impl.Table, s impl.Session) impl.Table {
	t = cloneTable(t)
	t.Sessions = slices.DeleteFunc(t.Sessions, func(x impl.Session) bool { return x.Client == s.Client })
	t.Sessions = append(t.Sessions, s)
	slices.SortFunc(t.Sessions, func(a, b impl.Session) int { return a.Client - b.Client })
	return t
}

// wantDone checks a command that is carried out: its result, and the pairs that it leaves.
func wantDone(t *testing.T, what string, before impl.Table, c impl.Cmd, result int, val string, pairs []impl.Pair) {
	t.Helper()
	left := withSession(before, impl.Session{Client: c.Client, Seq: c.Seq, Code: result, Val: val})
	left.Pairs = pairs
	want := impl.ApplyAnswer{Result: result, Val: val, Table: left}
	if got := impl.ApplyCmd(before, c); !sameApply(got, want) {
		t.Errorf("%s: %s, not %s", what, told(got), told(want))
	}
}

// modelApplyCmd is the document's 5.1 told once more, on the lists themselves, for a well-formed table.
func modelApplyCmd(t impl.Table, c impl.Cmd) impl.ApplyAnswer {
	t = cloneTable(t)
	if impl.CmdFault(c) != 0 {
		return impl.ApplyAnswer{Code: 8, Table: t}
	}
	if c == (impl.Cmd{}) {
		return impl.ApplyAnswer{Code: 1, Table: t}
	}
	at, found := slices.BinarySearchFunc(t.Sessions, c.Client, func(s impl.Session, id int) int { return s.Client - id })
	if found && t.Sessions[at].Seq > c.Seq {
		return impl.ApplyAnswer{Code: 3, Table: t}
	}
	if found && t.Sessions[at].Seq == c.Seq {
		return impl.ApplyAnswer{Code: 2, Result: t.Sessions[at].Code, Val: t.Sessions[at].Val, Table: t}
	}
	if !found {
		t.Sessions = slices.Insert(t.Sessions, at, impl.Session{})
	}
	a := impl.ApplyAnswer{}
	a.Result, a.Val = modelOp(&t, c)
	t.Sessions[at] = impl.Session{Client: c.Client, Seq: c.Seq, Code: a.Result, Val: a.Val}
	a.Table = t
	return a
}

func modelOp(t *impl.Table, c impl.Cmd) (int, string) {
	at, found := slices.BinarySearchFunc(t.Pairs, c.Key, func(p impl.Pair, key string) int { return strings.Compare(p.Key, key) })
	if !found {
		if c.Op != impl.OpPut {
			return 2, ""
		}
		if len(t.Pairs) >= 256 {
			return 4, ""
		}
		t.Pairs = slices.Insert(t.Pairs, at, impl.Pair{Key: c.Key, Val: c.Val})
		return 1, ""
	}
	held := t.Pairs[at].Val
	switch c.Op {
	case impl.OpPut:
		t.Pairs[at].Val = c.Val
		return 1, ""
	case impl.OpDel:
		t.Pairs = slices.Delete(t.Pairs, at, at+1)
	case impl.OpCas:
		if held != c.Old {
			return 3, held
		}
		t.Pairs[at].Val = c.Val
		return 1, ""
	}
	return 1, held
}

// drawCmd: mostly a well-formed command, of few clients, keys and values.
func drawCmd(random *rand.Rand, clients, seqs int) impl.Cmd {
	c := impl.Cmd{Client: 1 + random.Intn(clients), Seq: 1 + random.Intn(seqs), Op: 1 + random.Intn(4), Key: letters(1 + random.Intn(4))}
	if c.Op == impl.OpPut || c.Op == impl.OpCas {
		c.Val = letters(random.Intn(3))
	}
	if c.Op == impl.OpCas {
		c.Old = letters(random.Intn(3))
	}
	switch random.Intn(40) {
	case 0:
		c.Op = random.Intn(7) - 1
	case 1:
		c = impl.Cmd{}
	case 2:
		c.Key = ""
	}
	return c
}
