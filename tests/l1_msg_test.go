package tests

import (
	"math"
	"testing"

	"loop.example/s01586/impl"
)

// checkMsg holds a message against MsgFault, the encoder and the decoder.
func checkMsg(t *testing.T, m impl.Msg, fault int) {
	t.Helper()
	if g := impl.MsgFault(m); g != fault {
		t.Errorf("%+v: fault %d, not %d", m, g, fault)
	}
	checkFrame(t, impl.EncodeMsg(m), msgParts(m), fault)
	if m.Kind < 1 || m.Kind > 6 || !onWire(m.From, m.To, m.Term, m.LogIndex, m.LogTerm, m.Commit, m.Ok, m.Hint) {
		return
	}
	unreadable := len(m.Entries) > impl.MaxBatch
	for _, e := range m.Entries {
		if !onWire(e.Term, e.Cmd.Client, e.Cmd.Seq, e.Cmd.Op) {
			return
		}
		unreadable = unreadable || longTexts(e.Cmd)
	}
	b := seal(msgParts(m)...)
	a := impl.DecodeMsg(b)
	if len(b) <= impl.MaxFrame {
		checkAnswer(t, verdict{a.Code, a.Fault}, fault, unreadable)
	} else if a.Code != 1 {
		t.Errorf("%d bytes: code %d", len(b), a.Code)
	}
}

var edges = []int{math.MinInt, -1, 0, 1, 2, 6, 7, 8, impl.MaxLog - 1, impl.MaxLog, impl.MaxLog + 1, impl.MaxTerm, impl.MaxTerm + 1, wireTop, math.MaxInt}

func TestMsgKinds(t *testing.T) {
	for _, n := range edges {
		checkMsg(t, impl.Msg{Kind: n, From: 1, To: 2, Term: 1}, ruleIf(n < 1 || n > 6, 1))
	}
	checkMsg(t, impl.Msg{}, 1)
}

func TestMsgEnds(t *testing.T) {
	for kind := 1; kind <= 6; kind++ {
		for _, n := range edges {
			checkMsg(t, impl.Msg{Kind: kind, From: n, To: 2, Term: 1}, ruleIf(n < 1 || n > 7 || n == 2, 2))
			checkMsg(t, impl.Msg{Kind: kind, From: 1, To: n, Term: 1}, ruleIf(n < 2 || n > 7, 2))
		}
		for n := 1; n <= 7; n++ {
			checkMsg(t, impl.Msg{Kind: kind, From: n, To: n, Term: 1}, 2)
		}
	}
}

func TestMsgTerms(t *testing.T) {
	for kind := 1; kind <= 6; kind++ {
		for _, n := range edges {
			checkMsg(t, impl.Msg{Kind: kind, From: 1, To: 2, Term: n}, ruleIf(n < 1 || n > impl.MaxTerm, 3))
		}
	}
}

func TestMsgPosition(t *testing.T) {
	for kind := 1; kind <= 6; kind++ {
		for _, term := range []int{1, 7, impl.MaxTerm} {
			for _, index := range edges {
				for _, logTerm := range append([]int{term - 1, term + 1}, edges...) {
					m := impl.Msg{Kind: kind, From: 1, To: 2, Term: term, LogIndex: index, LogTerm: logTerm}
					checkMsg(t, m, ruleIf(!positionOk(m), 4))
				}
			}
		}
	}
}

func positionOk(m impl.Msg) bool {
	inLog := m.LogIndex >= 0 && m.LogIndex <= 4096
	switch m.Kind {
	case 1, 3, 5:
		if m.LogIndex == 0 {
			return m.LogTerm == 0
		}
		return inLog && m.LogTerm >= 1 && m.LogTerm <= m.Term
	case 6:
		return inLog && m.LogTerm == 0
	}
	return m.LogIndex == 0 && m.LogTerm == 0
}

func TestMsgMarks(t *testing.T) {
	for kind := 1; kind <= 6; kind++ {
		for _, n := range edges {
			base := impl.Msg{Kind: kind, From: 1, To: 2, Term: 1}
			m := base
			m.Commit = n
			checkMsg(t, m, ruleIf(n != 0 && (kind != 5 || n < 0 || n > 4096), 5))
			m = base
			m.Ok = n
			checkMsg(t, m, ruleIf(n != 0 && (kind%2 == 1 || n != 1), 5))
			m = base
			m.Hint = n
			checkMsg(t, m, ruleIf(n != 0 && (kind != 6 || n < 0 || n > 4096), 5))
			if kind%2 == 0 {
				m.Ok = 1
				checkMsg(t, m, ruleIf(n != 0, 5))
			}
		}
	}
}

func blanks(terms ...int) []impl.Entry {
	var out []impl.Entry
	for _, n := range terms {
		out = append(out, impl.Entry{Term: n})
	}
	return out
}

func TestMsgEntries(t *testing.T) {
	for kind := 1; kind <= 6; kind++ {
		m := impl.Msg{Kind: kind, From: 1, To: 2, Term: 1, Entries: blanks(1)}
		checkMsg(t, m, ruleIf(kind != 5, 6))
	}
	for _, c := range []struct {
		term, logTerm int
		terms         []int
		fault         int
	}{
		{5, 3, []int{3}, 0}, {5, 3, []int{2}, 6}, {5, 3, []int{5}, 0}, {5, 3, []int{6}, 6},
		{5, 0, []int{1}, 0}, {5, 0, []int{0}, 6}, {5, 0, []int{-1}, 6}, {5, 0, []int{math.MinInt}, 6}, {5, 0, []int{math.MaxInt}, 6},
		{5, 3, []int{3, 3, 4, 5, 5}, 0}, {5, 3, []int{4, 3}, 6}, {5, 3, []int{3, 4, 5, 4}, 6}, {5, 3, []int{4, 4, 4, 6}, 6},
		{impl.MaxTerm, impl.MaxTerm, []int{impl.MaxTerm}, 0}, {impl.MaxTerm, 1, []int{1, impl.MaxTerm + 1}, 6},
	} {
		m := impl.Msg{Kind: 5, From: 1, To: 2, Term: c.term, LogTerm: c.logTerm, LogIndex: min(c.logTerm, 1), Entries: blanks(c.terms...)}
		checkMsg(t, m, c.fault)
	}
	bad := blanks(1, 1, 1)
	bad[2].Cmd.Seq = 1
	checkMsg(t, impl.Msg{Kind: 5, From: 1, To: 2, Term: 1, Entries: bad}, 6)
}

func TestMsgBatch(t *testing.T) {
	for _, n := range []int{0, 1, 31, 32, 33, 34, 200, 5000} {
		terms := make([]int, n)
		for i := range terms {
			terms[i] = 2
		}
		m := impl.Msg{Kind: 5, From: 1, To: 2, Term: 2, Entries: blanks(terms...)}
		checkMsg(t, m, ruleIf(n > 32, 6))
		for _, over := range []int{-1, 0, 1} {
			if m.LogIndex, m.LogTerm = 4096-n+over, 2; m.LogIndex >= 1 && m.LogIndex <= 4096 {
				checkMsg(t, m, ruleIf(n > 32 || over > 0, 6))
			}
		}
	}
}

func TestMsgFaultOrder(t *testing.T) {
	breaks := []func(*impl.Msg){
		func(m *impl.Msg) { m.Kind = 7 },
		func(m *impl.Msg) { m.From = 2 },
		func(m *impl.Msg) { m.Term = impl.MaxTerm + 1 },
		func(m *impl.Msg) { m.LogIndex = 1 },
		func(m *impl.Msg) { m.Hint = 1 },
		func(m *impl.Msg) { m.Entries = blanks(0) },
	}
	for set := 1; set < 1<<len(breaks); set++ {
		m := impl.Msg{Kind: 5, From: 1, To: 2, Term: 1}
		checkMsg(t, m, 0)
		checkMsg(t, breakAll(m, breaks, set), firstOf(set))
	}
}
