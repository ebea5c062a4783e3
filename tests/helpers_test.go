package tests

import (
	"encoding/binary"
	"hash/crc32"
	"reflect"
	"slices"
	"strings"
	"testing"

	"loop.example/s01586/impl"
)

// wireTop is the greatest number that the wire can carry.
const wireTop = 1<<35 - 1

// The builders below write any value, well-formed or not, so that a test can frame what the encoders refuse.

func number(n int) []byte {
	return binary.AppendUvarint(nil, uint64(n))
}

func text(s string) []byte {
	return append(number(len(s)), s...)
}

func seal(parts ...[]byte) []byte {
	body := slices.Concat(parts...)
	out := binary.LittleEndian.AppendUint32(nil, uint32(len(body)))
	out = binary.LittleEndian.AppendUint32(out, crc32.ChecksumIEEE(body))
	return append(out, body...)
}

func cmdParts(c impl.Cmd) [][]byte {
	return [][]byte{number(c.Client), number(c.Seq), number(c.Op), text(c.Key), text(c.Val), text(c.Old)}
}

func callParts(c impl.Cmd) [][]byte {
	return append([][]byte{{7}}, cmdParts(c)...)
}

func replyParts(r impl.Reply) [][]byte {
	return [][]byte{{8}, number(r.Client), number(r.Seq), number(r.Status), number(r.Code), text(r.Val), number(r.Leader)}
}

func msgParts(m impl.Msg) [][]byte {
	parts := [][]byte{{byte(m.Kind)}}
	for _, n := range []int{m.From, m.To, m.Term, m.LogIndex, m.LogTerm, m.Commit, m.Ok, m.Hint, len(m.Entries)} {
		parts = append(parts, number(n))
	}
	for _, e := range m.Entries {
		parts = append(parts, number(e.Term))
		parts = append(parts, cmdParts(e.Cmd)...)
	}
	return parts
}

func letters(n int) string {
	return strings.Repeat("k", n)
}

func sameMsg(a, b impl.Msg) bool {
	if !slices.Equal(a.Entries, b.Entries) {
		return false
	}
	a.Entries, b.Entries = nil, nil
	return reflect.DeepEqual(a, b)
}

// verdict is what one decoder said, without the value.
type verdict struct {
	code, fault int
}

// askAll asks the decoders of messages, calls and replies, and checks what holds of every answer.
func askAll(t *testing.T, b []byte) [3]verdict {
	t.Helper()
	before := slices.Clone(b)
	m, c, r := impl.DecodeMsg(b), impl.DecodeCall(b), impl.DecodeReply(b)
	if !slices.Equal(b, before) {
		t.Fatalf("a decoder wrote into its argument %x", before)
	}
	all := [3]verdict{{m.Code, m.Fault}, {c.Code, c.Fault}, {r.Code, r.Fault}}
	zero := [3]bool{sameMsg(m.Msg, impl.Msg{}), c.Cmd == impl.Cmd{}, r.Reply == impl.Reply{}}
	for i, v := range all {
		if v.code < 0 || v.code > 6 || (v.code == 6) != (v.fault != 0) || (v.code == 0) == zero[i] {
			t.Fatalf("decoder %d of %x: code %d, fault %d, zero %v", i, b, v.code, v.fault, zero[i])
		}
	}
	return all
}

// wantAll checks all three codes, and that there is no fault.
func wantAll(t *testing.T, what string, b []byte, msg, call, reply int) {
	t.Helper()
	if got := askAll(t, b); got != [3]verdict{{msg, 0}, {call, 0}, {reply, 0}} {
		t.Errorf("%s: %v, not %d %d %d: %x", what, got, msg, call, reply, b)
	}
}
