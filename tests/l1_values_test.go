package tests

import (
	"hash/crc32"
	"math"
	"slices"
	"testing"

	"loop.example/s01586/impl"
)

func TestCrc32(t *testing.T) {
	if g := impl.Crc32([]byte("123456789")); g != 0xCBF43926 {
		t.Errorf("nine digits: %x", g)
	}
	if impl.Crc32(nil) != 0 || impl.Crc32([]byte{}) != 0 {
		t.Error("no bytes have 0")
	}
	data := make([]byte, 0, 600)
	for i := range 600 {
		if g, w := impl.Crc32(data), crc32.ChecksumIEEE(data); g != w {
			t.Fatalf("%d bytes: %x, not %x", i, g, w)
		}
		data = append(data, byte(i*i+i/3))
	}
}

// checkCmd holds a command against CmdFault, the encoder, the decoder, and a message that carries it.
func checkCmd(t *testing.T, c impl.Cmd, fault int) {
	t.Helper()
	if g := impl.CmdFault(c); g != fault {
		t.Errorf("%+v: fault %d, not %d", c, g, fault)
	}
	refused := fault
	if fault == 0 && c.Op == impl.OpNone {
		refused = 1
	}
	checkFrame(t, impl.EncodeCall(c), callParts(c), refused)
	carrier := impl.Msg{Kind: impl.KindAppend, From: 1, To: 2, Term: 3, Entries: []impl.Entry{{Term: 2, Cmd: c}}}
	if fault != 0 {
		fault = 6
	}
	checkFrame(t, impl.EncodeMsg(carrier), msgParts(carrier), fault)
	if !onWire(c.Client, c.Seq, c.Op) {
		return
	}
	a := impl.DecodeCall(seal(callParts(c)...))
	checkAnswer(t, verdict{a.Code, a.Fault}, refused, longTexts(c))
	m := impl.DecodeMsg(seal(msgParts(carrier)...))
	checkAnswer(t, verdict{m.Code, m.Fault}, fault, longTexts(c))
}

func longTexts(c impl.Cmd) bool {
	return max(len(c.Key), len(c.Val), len(c.Old)) > impl.MaxText
}

func onWire(ns ...int) bool {
	return slices.Min(ns) >= 0 && slices.Max(ns) <= wireTop
}

func checkFrame(t *testing.T, got []byte, parts [][]byte, fault int) {
	t.Helper()
	if fault != 0 && len(got) != 0 {
		t.Errorf("an ill-formed value (%d) has the frame %x", fault, got)
	}
	if fault == 0 && !slices.Equal(got, seal(parts...)) {
		t.Errorf("frame %x, not %x", got, seal(parts...))
	}
}

func checkAnswer(t *testing.T, got verdict, fault int, unreadable bool) {
	t.Helper()
	want := verdict{}
	if unreadable {
		want.code = 5
	} else if fault != 0 {
		want = verdict{6, fault}
	}
	if got != want {
		t.Errorf("decoder: %v, not %v", got, want)
	}
}

func TestCommandNumbers(t *testing.T) {
	for _, n := range []int{math.MinInt, -1, 5, 6, 128, wireTop, math.MaxInt} {
		checkCmd(t, impl.Cmd{Client: 1, Seq: 1, Op: n, Key: "k"}, 1)
	}
	for op := impl.OpGet; op <= impl.OpCas; op++ {
		for _, n := range []int{math.MinInt, -1, 0, impl.MaxClients + 1, wireTop, math.MaxInt} {
			checkCmd(t, impl.Cmd{Client: n, Seq: 1, Op: op, Key: "k"}, 2)
		}
		for _, n := range []int{math.MinInt, -1, 0, impl.MaxSeq + 1, wireTop, math.MaxInt} {
			checkCmd(t, impl.Cmd{Client: 1, Seq: n, Op: op, Key: "k"}, 3)
		}
		for _, n := range []int{1, 2, impl.MaxClients - 1, impl.MaxClients} {
			checkCmd(t, impl.Cmd{Client: n, Seq: 1, Op: op, Key: "k"}, 0)
		}
		for _, n := range []int{1, 2, impl.MaxSeq - 1, impl.MaxSeq} {
			checkCmd(t, impl.Cmd{Client: 1, Seq: n, Op: op, Key: "k"}, 0)
		}
	}
}

func TestCommandTexts(t *testing.T) {
	sizes := []int{0, 1, impl.MaxText, impl.MaxText + 1, 200}
	for op := impl.OpGet; op <= impl.OpCas; op++ {
		for _, key := range sizes {
			for _, val := range sizes {
				for _, old := range sizes {
					c := impl.Cmd{Client: 8, Seq: 7, Op: op, Key: letters(key), Val: letters(val), Old: letters(old)}
					checkCmd(t, c, textFault(op, key, val, old))
				}
			}
		}
	}
}

func textFault(op, key, val, old int) int {
	hasVal, hasOld := op == impl.OpPut || op == impl.OpCas, op == impl.OpCas
	switch {
	case key < 1 || key > impl.MaxText:
		return 4
	case val > impl.MaxText || val > 0 && !hasVal:
		return 5
	case old > impl.MaxText || old > 0 && !hasOld:
		return 6
	}
	return 0
}

func TestBlankCommand(t *testing.T) {
	checkCmd(t, impl.Cmd{}, 0)
	for _, n := range []int{-1, 1, impl.MaxClients, impl.MaxClients + 1} {
		checkCmd(t, impl.Cmd{Client: n}, 2)
	}
	for _, n := range []int{-1, 1, impl.MaxSeq, impl.MaxSeq + 1} {
		checkCmd(t, impl.Cmd{Seq: n}, 3)
	}
	checkCmd(t, impl.Cmd{Key: "k"}, 4)
	checkCmd(t, impl.Cmd{Val: "v"}, 5)
	checkCmd(t, impl.Cmd{Old: "o"}, 6)
}

// Every choice of broken rules of a command: the first is answered.
func TestCommandFaultOrder(t *testing.T) {
	breaks := []func(*impl.Cmd){
		func(c *impl.Cmd) { c.Op = 5 },
		func(c *impl.Cmd) { c.Client = 9 },
		func(c *impl.Cmd) { c.Seq = 0 },
		func(c *impl.Cmd) { c.Key = "" },
		func(c *impl.Cmd) { c.Val = "v" },
		func(c *impl.Cmd) { c.Old = "o" },
	}
	for set := 1; set < 1<<len(breaks); set++ {
		c := impl.Cmd{Client: 1, Seq: 1, Op: impl.OpGet, Key: "k"}
		checkCmd(t, c, 0)
		checkCmd(t, breakAll(c, breaks, set), firstOf(set))
	}
}

func breakAll[T any](v T, breaks []func(*T), set int) T {
	for i, f := range breaks {
		if set>>i&1 == 1 {
			f(&v)
		}
	}
	return v
}

func firstOf(set int) int {
	n := 1
	for set&1 == 0 {
		set >>= 1
		n++
	}
	return n
}

// checkReply holds a reply against the encoder and the decoder.
func checkReply(t *testing.T, r impl.Reply, fault int) {
	t.Helper()
	checkFrame(t, impl.EncodeReply(r), replyParts(r), fault)
	if onWire(r.Client, r.Seq, r.Status, r.Code, r.Leader) {
		a := impl.DecodeReply(seal(replyParts(r)...))
		checkAnswer(t, verdict{a.Code, a.Fault}, fault, len(r.Val) > impl.MaxText)
	}
}

func TestReplyRules(t *testing.T) {
	done := impl.Reply{Client: 1, Seq: 1, Status: impl.StatusDone, Code: 1}
	away := impl.Reply{Client: 1, Seq: 1, Status: impl.StatusRedirect}
	numbers := []int{math.MinInt, -1, 0, 1, 2, 3, 4, 5, 7, 8, 9, impl.MaxSeq, impl.MaxSeq + 1, wireTop, math.MaxInt}
	for _, base := range []impl.Reply{done, away} {
		for _, n := range numbers {
			r := base
			r.Client = n
			checkReply(t, r, ruleIf(n < 1 || n > 8, 1))
			r = base
			r.Seq = n
			checkReply(t, r, ruleIf(n < 1 || n > impl.MaxSeq, 2))
			r = base
			r.Code = n
			checkReply(t, r, ruleIf(base == done && (n < 1 || n > 4) || base == away && n != 0, 4))
			r = base
			r.Leader = n
			checkReply(t, r, ruleIf(base == done && n != 0 || base == away && (n < 0 || n > 7), 6))
		}
		for _, n := range []int{0, 1, impl.MaxText, impl.MaxText + 1} {
			r := base
			r.Val = letters(n)
			checkReply(t, r, ruleIf(base == done && n > impl.MaxText || base == away && n > 0, 5))
		}
	}
	for _, n := range []int{math.MinInt, -1, 0, 3, 4, wireTop, math.MaxInt} {
		checkReply(t, impl.Reply{Client: 1, Seq: 1, Status: n}, 3)
	}
	checkReply(t, impl.Reply{}, 1)
}

func ruleIf(broken bool, rule int) int {
	if broken {
		return rule
	}
	return 0
}

func TestReplyFaultOrder(t *testing.T) {
	breaks := []func(*impl.Reply){
		func(r *impl.Reply) { r.Client = 0 },
		func(r *impl.Reply) { r.Seq = 0 },
		func(r *impl.Reply) { r.Status = 3 },
		func(r *impl.Reply) { r.Code = 1 },
		func(r *impl.Reply) { r.Val = "v" },
		func(r *impl.Reply) { r.Leader = 8 },
	}
	for set := 1; set < 1<<len(breaks); set++ {
		r := impl.Reply{Client: 8, Seq: 1, Status: impl.StatusRedirect, Leader: 7}
		checkReply(t, r, 0)
		checkReply(t, breakAll(r, breaks, set), firstOf(set))
	}
}
