package tests

import (
	"encoding/binary"
	"hash/crc32"
	"slices"
	"testing"

	"loop.example/s01586/impl"
)

func hard(term, vote int) impl.Record {
	return impl.Record{Kind: impl.RecHard, Term: term, Vote: vote}
}

func add(index, term int) impl.Record {
	return impl.Record{Kind: impl.RecAdd, Index: index, Entry: impl.Entry{Term: term}}
}

func cut(index int) impl.Record {
	return impl.Record{Kind: impl.RecCut, Index: index}
}

func putEntry(term, seq int, val string) impl.Entry {
	return impl.Entry{Term: term, Cmd: impl.Cmd{Client: 1, Seq: seq, Op: impl.OpPut, Key: "k", Val: val}}
}

// recordParts writes any record of a known kind, well-formed or not, as a number or a text a part.
func recordParts(r impl.Record) [][]byte {
	kind := []byte{byte(10 + r.Kind)}
	switch r.Kind {
	case impl.RecHard:
		return [][]byte{kind, number(r.Term), number(r.Vote)}
	case impl.RecAdd:
		return append([][]byte{kind, number(r.Index), number(r.Entry.Term)}, cmdParts(r.Entry.Cmd)...)
	}
	return [][]byte{kind, number(r.Index)}
}

func journal(rs ...impl.Record) []byte {
	var out []byte
	for _, r := range rs {
		out = append(out, seal(recordParts(r)...)...)
	}
	return out
}

func sameStable(a, b impl.Stable) bool {
	return a.Term == b.Term && a.Vote == b.Vote && slices.Equal(a.Log, b.Log)
}

func sameDisk(a, b impl.Disk) bool {
	return a.Cap == b.Cap && a.Synced == b.Synced && slices.Equal(a.Data, b.Data)
}

func sameRecovery(a, b impl.Recovery) bool {
	return a.Code == b.Code && a.Good == b.Good && a.Records == b.Records && sameStable(a.Stable, b.Stable)
}

// wantStop checks the whole answer for head, a journal that reads as state, with tail behind it.
func wantStop(t *testing.T, what string, head []impl.Record, state impl.Stable, tail []byte, code int) {
	t.Helper()
	good := journal(head...)
	data := append(slices.Clone(good), tail...)
	before := slices.Clone(data)
	got := impl.Recover(data)
	want := impl.Recovery{Code: code, Good: len(good), Records: len(head), Stable: state}
	if !sameRecovery(got, want) {
		t.Errorf("%s: %+v, not %+v", what, got, want)
	}
	if !slices.Equal(data, before) {
		t.Errorf("%s: the bytes were changed", what)
	}
}

// stableOf: what records that are all in place leave.
func stableOf(rs ...impl.Record) impl.Stable {
	var s impl.Stable
	for _, r := range rs {
		switch r.Kind {
		case impl.RecHard:
			s.Term, s.Vote = r.Term, r.Vote
		case impl.RecAdd:
			s.Log = append(s.Log, r.Entry)
		case impl.RecCut:
			s.Log = slices.Clone(s.Log[:r.Index])
		}
	}
	return s
}

// recordsOf: a journal of the state, one hard record first.
func recordsOf(s impl.Stable) []impl.Record {
	out := []impl.Record{hard(s.Term, s.Vote)}
	for i, e := range s.Log {
		out = append(out, impl.Record{Kind: impl.RecAdd, Index: i + 1, Entry: e})
	}
	return out
}

// modelRecover is the document's 2.2 told once more, by other means, for journals of records without texts.
func modelRecover(data []byte) impl.Recovery {
	var r impl.Recovery
	for {
		left := data[r.Good:]
		if len(left) == 0 {
			return r
		}
		body, code := modelFrame(left)
		if code == 0 {
			code = modelApply(body, &r.Stable)
		}
		if code != 0 {
			r.Code = code
			return r
		}
		r.Good += 8 + len(body)
		r.Records++
	}
}

func modelFrame(left []byte) ([]byte, int) {
	if len(left) < 9 {
		return nil, 1
	}
	n := int64(binary.LittleEndian.Uint32(left))
	switch {
	case n == 0 || n > 16376:
		return nil, 2
	case 8+n > int64(len(left)):
		return nil, 1
	case crc32.ChecksumIEEE(left[8:8+n]) != binary.LittleEndian.Uint32(left[4:]):
		return nil, 3
	}
	return left[8 : 8+n], 0
}

// modelNumbers reads exactly n numbers in their shortest form.
func modelNumbers(b []byte, n int) []uint64 {
	var out []uint64
	for len(b) > 0 {
		v, size := binary.Uvarint(b)
		if size <= 0 || size > 5 || len(binary.AppendUvarint(nil, v)) != size {
			return nil
		}
		out = append(out, v)
		b = b[size:]
	}
	if len(out) != n {
		return nil
	}
	return out
}

func modelApply(body []byte, s *impl.Stable) int {
	counts := map[byte]int{11: 2, 12: 8, 13: 1}
	ns := modelNumbers(body[1:], counts[body[0]])
	if ns == nil || counts[body[0]] == 0 {
		return 4
	}
	switch body[0] {
	case 11:
		return modelHard(int(ns[0]), int(ns[1]), s)
	case 12:
		return modelAdd(int(ns[0]), int(ns[1]), ns[2:], s)
	}
	index := int(ns[0])
	if index > 4096 {
		return 4
	}
	if index > len(s.Log) {
		return 5
	}
	s.Log = slices.Clone(s.Log[:index])
	return 0
}

func modelHard(term, vote int, s *impl.Stable) int {
	if term > 1<<30 || vote > 7 || term == 0 && vote != 0 {
		return 4
	}
	if term < s.Term || term == s.Term && s.Vote != 0 && s.Vote != vote {
		return 5
	}
	s.Term, s.Vote = term, vote
	return 0
}

// The entries of the model's journals are blank: six zeros.
func modelAdd(index, term int, rest []uint64, s *impl.Stable) int {
	if index < 1 || index > 4096 || term < 1 || term > 1<<30 || slices.Max(rest) > 0 {
		return 4
	}
	last := 0
	if n := len(s.Log); n > 0 {
		last = s.Log[n-1].Term
	}
	if index != len(s.Log)+1 || term < last || term > s.Term {
		return 5
	}
	s.Log = append(s.Log, impl.Entry{Term: term})
	return 0
}
