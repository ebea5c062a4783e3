package tests

import (
	"math"
	"slices"
	"testing"

	"loop.example/s01586/impl"
)

// Promise 2: a frame with one changed byte is refused, by the length where that was changed, else by the check sum.

func bendAndAsk(t *testing.T, b []byte, at int, x byte) {
	t.Helper()
	bent := slices.Clone(b)
	bent[at] ^= x
	code := 3
	if at < 4 {
		code = 2
	}
	wantAll(t, "bent frame", bent, code, code, code)
}

// shortFrames: at least one of each kind.
func shortFrames() [][]byte {
	return [][]byte{
		impl.EncodeMsg(impl.Msg{Kind: 1, From: 1, To: 2, Term: 3}),
		impl.EncodeMsg(impl.Msg{Kind: 2, From: 1, To: 2, Term: 3, Ok: 1}),
		impl.EncodeMsg(impl.Msg{Kind: 3, From: 1, To: 2, Term: 300, LogIndex: 4, LogTerm: 2}),
		impl.EncodeMsg(impl.Msg{Kind: 4, From: 7, To: 6, Term: impl.MaxTerm}),
		impl.EncodeMsg(impl.Msg{Kind: 5, From: 1, To: 2, Term: 3, Entries: blanks(1, 2)}),
		impl.EncodeMsg(impl.Msg{Kind: 6, From: 1, To: 2, Term: 3, LogIndex: 9, Hint: 8}),
		impl.EncodeCall(impl.Cmd{Client: 1, Seq: 128, Op: impl.OpGet, Key: "key"}),
		impl.EncodeCall(impl.Cmd{Client: 8, Seq: 1, Op: impl.OpCas, Key: "key", Val: "new", Old: "old"}),
		impl.EncodeReply(impl.Reply{Client: 1, Seq: 1, Status: impl.StatusDone, Code: 1, Val: "value"}),
		impl.EncodeReply(impl.Reply{Client: 1, Seq: 1, Status: impl.StatusRedirect, Leader: 2}),
	}
}

func TestP2EveryChangeOfShortFrames(t *testing.T) {
	for _, b := range shortFrames() {
		for at := range b {
			for x := 1; x < 256; x++ {
				bendAndAsk(t, b, at, byte(x))
			}
		}
	}
}

func TestP2EveryPlaceOfAllFrames(t *testing.T) {
	for _, b := range frameSamples() {
		if len(b) > 2000 {
			continue
		}
		for at := range b {
			bendAndAsk(t, b, at, byte(1+(at*31+len(b))%255))
		}
	}
}

func TestP2EveryPlaceOfTheLongestFrame(t *testing.T) {
	b := impl.EncodeMsg(longestMsg())
	for at := range b {
		bendAndAsk(t, b, at, byte(1+at%255))
	}
}

// spoilAndAsk spoils the byte at index place, told as at.
func spoilAndAsk(t *testing.T, b []byte, at, x, place int) {
	t.Helper()
	code := 3
	if place < 4 {
		code = 2
	}
	wantAll(t, "spoilt frame", impl.Spoil(b, at, x), code, code, code)
}

var spoilings = []int{math.MinInt, -256, -255, -254, -1, 0, 1, 127, 253, 254, 255, 256, 510, 1 << 40, math.MaxInt}

func TestP2SpoiltFrames(t *testing.T) {
	for _, b := range shortFrames() {
		n := len(b)
		for place := range b {
			for _, x := range spoilings {
				for _, at := range []int{place, place - n, place + n, place - 1000*n} {
					spoilAndAsk(t, b, at, x, place)
				}
			}
		}
	}
}

func TestP2SpoiltLongFrames(t *testing.T) {
	for _, m := range []impl.Msg{longestMsg(), batchSamples()[3]} {
		b := impl.EncodeMsg(m)
		for place := range b {
			spoilAndAsk(t, b, place-len(b), spoilings[place%len(spoilings)], place)
		}
	}
}

func TestP2SpoiltEverySample(t *testing.T) {
	for i, b := range frameSamples() {
		for place := 0; place < len(b); place += 1 + len(b)/40 {
			spoilAndAsk(t, b, place, spoilings[(i+place)%len(spoilings)], place)
		}
	}
}
