package tests

import (
	"slices"
	"testing"

	"loop.example/s01586/impl"
)

// Promise 2: a frame with one changed byte is refused, by the length where that was changed, else by the check sum.

func bendAndAsk(t *testing.T, b []byte, at int, x byte) {
	t.Helper()
	bent := slices.Clone(b)
	bent[at] ^= x
	code := 3
	if at < 4 {
		code = 2
	}
	wantAll(t, "bent frame", bent, code, code, code)
}

func TestP2EveryChangeOfShortFrames(t *testing.T) {
	for _, b := range [][]byte{
		impl.EncodeMsg(impl.Msg{Kind: 1, From: 1, To: 2, Term: 3}),
		impl.EncodeMsg(impl.Msg{Kind: 2, From: 1, To: 2, Term: 3, Ok: 1}),
		impl.EncodeMsg(impl.Msg{Kind: 3, From: 1, To: 2, Term: 300, LogIndex: 4, LogTerm: 2}),
		impl.EncodeMsg(impl.Msg{Kind: 4, From: 7, To: 6, Term: impl.MaxTerm}),
		impl.EncodeMsg(impl.Msg{Kind: 5, From: 1, To: 2, Term: 3, Entries: blanks(1, 2)}),
		impl.EncodeMsg(impl.Msg{Kind: 6, From: 1, To: 2, Term: 3, LogIndex: 9, Hint: 8}),
		impl.EncodeCall(impl.Cmd{Client: 1, Seq: 128, Op: impl.OpGet, Key: "key"}),
		impl.EncodeCall(impl.Cmd{Client: 8, Seq: 1, Op: impl.OpCas, Key: "key", Val: "new", Old: "old"}),
		impl.EncodeReply(impl.Reply{Client: 1, Seq: 1, Status: impl.StatusDone, Code: 1, Val: "value"}),
		impl.EncodeReply(impl.Reply{Client: 1, Seq: 1, Status: impl.StatusRedirect, Leader: 2}),
	} {
		for at := range b {
			for x := 1; x < 256; x++ {
				bendAndAsk(t, b, at, byte(x))
			}
		}
	}
}

func TestP2EveryPlaceOfAllFrames(t *testing.T) {
	for _, b := range frameSamples() {
		if len(b) > 2000 {
			continue
		}
		for at := range b {
			bendAndAsk(t, b, at, byte(1+(at*31+len(b))%255))
		}
	}
}

func TestP2EveryPlaceOfTheLongestFrame(t *testing.T) {
	b := impl.EncodeMsg(longestMsg())
	for at := range b {
		bendAndAsk(t, b, at, byte(1+at%255))
	}
}
