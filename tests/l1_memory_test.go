package tests

import (
	"slices"
	"testing"

	"loop.example/s01586/impl"
)

// Chapter 0 for the wire: an answer is new memory, an argument is only read.

func scribble(b []byte) {
	for i := range b {
		b[i] ^= 0xA5
	}
}

func TestDecodedValuesAreNewMemory(t *testing.T) {
	for _, m := range msgSamples() {
		b := impl.EncodeMsg(m)
		one, two := impl.DecodeMsg(b), impl.DecodeMsg(b)
		scribble(b)
		for i := range one.Msg.Entries {
			one.Msg.Entries[i] = impl.Entry{Term: 77}
		}
		if !sameMsg(two.Msg, m) {
			t.Errorf("%+v became %+v", m, two.Msg)
		}
	}
	for _, c := range cmdSamples() {
		b := impl.EncodeCall(c)
		a := impl.DecodeCall(b)
		scribble(b)
		if a.Cmd != c {
			t.Errorf("%+v became %+v", c, a.Cmd)
		}
	}
	for _, r := range replySamples() {
		b := impl.EncodeReply(r)
		a := impl.DecodeReply(b)
		scribble(b)
		if a.Reply != r {
			t.Errorf("%+v became %+v", r, a.Reply)
		}
	}
}

func TestFramesAreNewMemory(t *testing.T) {
	for _, m := range msgSamples() {
		kept := slices.Clone(m.Entries)
		b := impl.EncodeMsg(m)
		want := slices.Clone(b)
		scribble(b[:cap(b)])
		if again := impl.EncodeMsg(m); !slices.Equal(again, want) {
			t.Errorf("%+v: frame %x, then %x", m, want, again)
		}
		impl.MsgFault(m)
		if !slices.Equal(m.Entries, kept) {
			t.Error("the entries were written into")
		}
	}
	c := impl.Cmd{Client: 1, Seq: 2, Op: impl.OpPut, Key: "key", Val: "val"}
	r := impl.Reply{Client: 1, Seq: 2, Status: impl.StatusDone, Code: 1, Val: "val"}
	scribble(impl.EncodeCall(c))
	scribble(impl.EncodeReply(r))
	checkFrame(t, impl.EncodeCall(c), callParts(c), 0)
	checkFrame(t, impl.EncodeReply(r), replyParts(r), 0)
}

// A list's room behind its end belongs to the caller.
func TestRoomBehindArgumentsStays(t *testing.T) {
	room := blanks(1, 1, 9, 9)
	m := impl.Msg{Kind: 5, From: 1, To: 2, Term: 1, Entries: room[:2]}
	impl.EncodeMsg(m)
	if !slices.Equal(room, blanks(1, 1, 9, 9)) {
		t.Error("EncodeMsg wrote behind the entries")
	}
	data := []byte("123456789behind")
	impl.Crc32(data[:9])
	b := append(impl.EncodeMsg(m), "behind"...)
	impl.DecodeMsg(b[:len(b)-6])
	if string(data) != "123456789behind" || string(b[len(b)-6:]) != "behind" {
		t.Error("bytes behind an argument were changed")
	}
}

func TestNoListAndEmptyListAreTheSame(t *testing.T) {
	m := impl.Msg{Kind: 5, From: 1, To: 2, Term: 1}
	b := impl.EncodeMsg(m)
	for kind := 1; kind <= 6; kind++ {
		m.Kind, m.Entries = kind, []impl.Entry{}
		if impl.MsgFault(m) != 0 {
			t.Errorf("kind %d with an empty list", kind)
		}
	}
	m.Kind = 5
	if !slices.Equal(impl.EncodeMsg(m), b) {
		t.Error("an empty list has another frame")
	}
}
