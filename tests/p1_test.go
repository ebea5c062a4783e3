package tests

import (
	"math/rand"
	"slices"
	"testing"

	"loop.example/s01586/impl"
)

// Promise 1: there and back, the other decoders refuse, one form for each value.

func TestP1Messages(t *testing.T) {
	for _, m := range msgSamples() {
		b := impl.EncodeMsg(m)
		if !slices.Equal(b, seal(msgParts(m)...)) {
			t.Errorf("%+v: frame %x", m, b)
		}
		wantAll(t, "message", b, 0, 4, 4)
		if a := impl.DecodeMsg(b); !sameMsg(a.Msg, m) {
			t.Errorf("%+v came back as %+v", m, a.Msg)
		}
	}
}

func TestP1Calls(t *testing.T) {
	for _, c := range cmdSamples() {
		b := impl.EncodeCall(c)
		if !slices.Equal(b, seal(callParts(c)...)) {
			t.Errorf("%+v: frame %x", c, b)
		}
		wantAll(t, "call", b, 4, 0, 4)
		if a := impl.DecodeCall(b); a.Cmd != c {
			t.Errorf("%+v came back as %+v", c, a.Cmd)
		}
	}
}

func TestP1Replies(t *testing.T) {
	for _, r := range replySamples() {
		b := impl.EncodeReply(r)
		if !slices.Equal(b, seal(replyParts(r)...)) {
			t.Errorf("%+v: frame %x", r, b)
		}
		wantAll(t, "reply", b, 4, 4, 0)
		if a := impl.DecodeReply(b); a.Reply != r {
			t.Errorf("%+v came back as %+v", r, a.Reply)
		}
	}
}

func TestP1LongestFrame(t *testing.T) {
	// The head, the kind and the two ends, Term, LogIndex, LogTerm, Commit, both marks, the count, the entries.
	b := impl.EncodeMsg(longestMsg())
	if want := 8 + 3 + 5 + 2 + 5 + 2 + 2 + 1 + 32*(5+1+5+1+3*65); len(b) != want {
		t.Errorf("%d bytes, not %d", len(b), want)
	}
	for _, f := range frameSamples() {
		if len(f) > len(b) {
			t.Errorf("a frame of %d bytes", len(f))
		}
	}
}

func TestP1EveryKeyByte(t *testing.T) {
	for n := range 256 {
		c := impl.Cmd{Client: 1, Seq: 1, Op: impl.OpCas, Key: string([]byte{byte(n)}), Val: string([]byte{byte(n), 0}), Old: string([]byte{255, byte(n)})}
		if a := impl.DecodeCall(impl.EncodeCall(c)); a.Code != 0 || a.Cmd != c {
			t.Errorf("byte %d: %+v", n, a)
		}
	}
}

// oneForm: what a decoder takes is the encoder's frame of it.
func oneForm(t *testing.T, b []byte) bool {
	t.Helper()
	all := askAll(t, b)
	var again []byte
	switch {
	case all[0].code == 0:
		again = impl.EncodeMsg(impl.DecodeMsg(b).Msg)
	case all[1].code == 0:
		again = impl.EncodeCall(impl.DecodeCall(b).Cmd)
	case all[2].code == 0:
		again = impl.EncodeReply(impl.DecodeReply(b).Reply)
	default:
		return false
	}
	if !slices.Equal(b, again) {
		t.Errorf("%x was taken, the encoder makes %x", b, again)
	}
	return true
}

func TestP1OneFormOfBentBodies(t *testing.T) {
	random := rand.New(rand.NewSource(1))
	frames := frameSamples()
	taken := 0
	for range 60000 {
		body := slices.Clone(frames[random.Intn(len(frames))][8:])
		if len(body) > 400 {
			body = body[:1+random.Intn(400)]
		}
		for range 1 + random.Intn(3) {
			at := random.Intn(len(body))
			switch random.Intn(3) {
			case 0:
				body[at] = byte(random.Intn(256))
			case 1:
				body = slices.Insert(body, at, byte(random.Intn(3)*64))
			case 2:
				body[at] ^= 1 << random.Intn(8)
			}
		}
		if oneForm(t, seal(body)) {
			taken++
		}
	}
	if taken < 1000 {
		t.Errorf("only %d bent bodies were taken: the test says little", taken)
	}
}

// Every body of up to four bytes behind the kind byte, of bytes that matter, around a reply's numbers.
func TestP1OneFormOfSmallBodies(t *testing.T) {
	bytes := []byte{0, 1, 2, 7, 8, 9, 127, 128, 129, 255}
	for _, kind := range []byte{0, 1, 2, 6, 7, 8, 9, 255} {
		for _, a := range bytes {
			for _, b := range bytes {
				for _, c := range bytes {
					oneForm(t, seal([]byte{kind, a, b, c, 0, 0, 0}))
					oneForm(t, seal([]byte{kind, a, b, 2, 0, 0, c}))
					oneForm(t, seal([]byte{kind, 1, a, b, c, 0, 0, 0}))
				}
			}
		}
	}
}
