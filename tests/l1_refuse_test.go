package tests

import (
	"math/rand"
	"slices"
	"testing"

	"loop.example/s01586/impl"
)

func TestWrongSizes(t *testing.T) {
	for n := range 9 {
		wantAll(t, "too short", make([]byte, n), 1, 1, 1)
	}
	wantAll(t, "nil", nil, 1, 1, 1)
	wantAll(t, "an empty body", seal(), 1, 1, 1)
	wantAll(t, "nine bytes", make([]byte, 9), 2, 2, 2)
	wantAll(t, "the longest there may be", make([]byte, impl.MaxFrame), 2, 2, 2)
	wantAll(t, "one more", make([]byte, impl.MaxFrame+1), 1, 1, 1)
	for kind := range 256 {
		m, c, r := codesOfKind(byte(kind))
		wantAll(t, "a body of one byte", seal([]byte{byte(kind)}), m, c, r)
		full := make([]byte, impl.MaxFrame-8)
		full[0] = byte(kind)
		if kind < 16 {
			wantAll(t, "the longest body", seal(full), m, c, r)
			wantAll(t, "a byte more", seal(full, []byte{0}), 1, 1, 1)
		}
	}
}

// codesOfKind: the codes for a body of this kind whose rest does not read.
func codesOfKind(kind byte) (int, int, int) {
	m, c, r := 4, 4, 4
	if kind >= 1 && kind <= 6 {
		m = 5
	}
	if kind == 7 {
		c = 5
	}
	if kind == 8 {
		r = 5
	}
	return m, c, r
}

func TestWrongLengthsAndSums(t *testing.T) {
	for _, b := range frameSamples() {
		if len(b) > 300 {
			continue
		}
		wantAll(t, "a byte too many", append(slices.Clone(b), 0), 2, 2, 2)
		if len(b) > 9 {
			wantAll(t, "a byte too few", b[:len(b)-1], 2, 2, 2)
		}
		for at := range 4 {
			wrong := slices.Clone(b)
			wrong[at]++
			wantAll(t, "another length", wrong, 2, 2, 2)
			wrong = slices.Clone(b)
			wrong[4+at]++
			wantAll(t, "another sum", wrong, 3, 3, 3)
		}
	}
}

// bodySamples: bodies in parts, a number or a text each, so that one part can be put wrong.
func bodySamples() [][][]byte {
	c := impl.Cmd{Client: 1, Seq: 300, Op: impl.OpCas, Key: "key", Val: "val", Old: "old"}
	entries := []impl.Entry{{Term: 2}, {Term: 3, Cmd: c}}
	return [][][]byte{
		callParts(c),
		callParts(impl.Cmd{Client: 8, Seq: impl.MaxSeq, Op: impl.OpGet, Key: letters(64)}),
		replyParts(impl.Reply{Client: 2, Seq: 70000, Status: impl.StatusDone, Code: 1, Val: "val"}),
		replyParts(impl.Reply{Client: 2, Seq: 1, Status: impl.StatusRedirect, Leader: 7}),
		msgParts(impl.Msg{Kind: 1, From: 1, To: 2, Term: impl.MaxTerm, LogIndex: 300, LogTerm: 2}),
		msgParts(impl.Msg{Kind: 2, From: 1, To: 2, Term: 3, Ok: 1}),
		msgParts(impl.Msg{Kind: 3, From: 1, To: 2, Term: 3}),
		msgParts(impl.Msg{Kind: 4, From: 1, To: 2, Term: 3}),
		msgParts(impl.Msg{Kind: 5, From: 1, To: 2, Term: 3, LogIndex: 5, LogTerm: 2, Commit: 4, Entries: entries}),
		msgParts(impl.Msg{Kind: 6, From: 1, To: 2, Term: 3, LogIndex: 9, Hint: 8}),
	}
}

func wantUnread(t *testing.T, what string, body []byte) {
	t.Helper()
	m, c, r := codesOfKind(body[0])
	wantAll(t, what, seal(body), m, c, r)
}

func TestBodiesThatEndEarlyOrLate(t *testing.T) {
	for _, parts := range bodySamples() {
		body := slices.Concat(parts...)
		for n := 1; n < len(body); n++ {
			wantUnread(t, "a beginning", body[:n])
		}
		for _, c := range []byte{0, 1, 128, 255} {
			wantUnread(t, "a byte left over", append(slices.Clone(body), c))
		}
		wantUnread(t, "the rest twice", append(slices.Clone(body), body[1:]...))
	}
}

// widen writes a part's leading number in n bytes.
func widen(part []byte, n int) []byte {
	size := slices.IndexFunc(part, func(c byte) bool { return c < 128 }) + 1
	out := slices.Clone(part[:size])
	for len(out) < n {
		out[len(out)-1] |= 128
		out = append(out, 0)
	}
	return append(out, part[size:]...)
}

func TestNumbersOutOfForm(t *testing.T) {
	for _, parts := range bodySamples() {
		for i := 1; i < len(parts); i++ {
			swap := func(p []byte) []byte {
				other := slices.Clone(parts)
				other[i] = p
				return slices.Concat(other...)
			}
			for n := 2; n <= 8; n++ {
				if wide := widen(parts[i], n); len(wide) > len(parts[i]) {
					wantUnread(t, "a number not in its shortest form", swap(wide))
				}
			}
			for _, p := range [][]byte{
				{0x80, 0x80, 0x80, 0x80, 0x80, 0x01},
				{0xFF, 0xFF, 0xFF, 0xFF, 0xFF, 0x01},
				{0xFF, 0xFF, 0xFF, 0xFF, 0x80, 0x00},
				{0xFF, 0xFF, 0xFF, 0xFF, 0xFF, 0xFF, 0xFF, 0xFF, 0xFF, 0x01},
			} {
				wantUnread(t, "a number that is too long", swap(p))
			}
		}
	}
}

// The greatest number of the wire reads wherever a number stands, but is no length of a text and no number of entries.
func TestNumbersOfFiveBytes(t *testing.T) {
	top := number(wireTop)
	if len(top) != 5 {
		t.Fatal(len(top))
	}
	for _, parts := range bodySamples() {
		for i := 1; i < len(parts); i++ {
			other := slices.Clone(parts)
			other[i] = top
			got := askAll(t, seal(other...))
			own := ownDecoder(parts[0][0])
			want := 6
			if isTextPart(parts, i) || own == 0 && i == 9 {
				want = 5
			}
			if got[own].code != want {
				t.Errorf("part %d of %x: %v, not %d", i, parts, got, want)
			}
		}
	}
}

func ownDecoder(kind byte) int {
	return max(0, int(kind)-6)
}

func isTextPart(parts [][]byte, i int) bool {
	switch parts[0][0] {
	case 7:
		return i >= 4
	case 8:
		return i == 5
	}
	return i >= 10 && (i-10)%7 >= 4
}

func TestTextsAndEntriesOutOfForm(t *testing.T) {
	head := [][]byte{{7}, number(1), number(1), number(2)}
	for _, n := range []int{0, 1, 63, 64, 65, 66, 127, 128, 300} {
		body := slices.Concat(append(head, text("k"), text(letters(n)), text(""))...)
		if n > 64 {
			wantUnread(t, "a text that is too long", body)
		} else {
			wantAll(t, "a text", seal(body), 4, 0, 4)
		}
	}
	for _, n := range []int{0, 1, 32, 33, 34, 128, 300} {
		terms := make([]int, n)
		for i := range terms {
			terms[i] = 1
		}
		body := slices.Concat(msgParts(impl.Msg{Kind: 5, From: 1, To: 2, Term: 1, Entries: blanks(terms...)})...)
		if n > 32 {
			wantUnread(t, "too many entries", body)
		} else {
			wantAll(t, "entries", seal(body), 0, 4, 4)
		}
	}
	few := msgParts(impl.Msg{Kind: 5, From: 1, To: 2, Term: 1, Entries: blanks(1, 1)})
	few[9] = number(3)
	wantUnread(t, "an entry fewer than told", slices.Concat(few...))
	few[9] = number(1)
	wantUnread(t, "an entry more than told", slices.Concat(few...))
}

func TestIllFormedValuesAreZero(t *testing.T) {
	for _, c := range []struct {
		parts [][]byte
		fault int
	}{
		{callParts(impl.Cmd{}), 1},
		{callParts(impl.Cmd{Client: 1}), 2},
		{callParts(impl.Cmd{Seq: 1}), 3},
		{callParts(impl.Cmd{Client: 9, Op: 5}), 1},
		{callParts(impl.Cmd{Client: 9, Seq: 1, Op: 2, Key: "k", Val: "v"}), 2},
		{replyParts(impl.Reply{Client: 1, Seq: 1, Status: 2, Code: 1, Val: "v", Leader: 8}), 4},
		{replyParts(impl.Reply{}), 1},
		{msgParts(impl.Msg{Kind: 4, From: 1, To: 2, Term: 1, Entries: blanks(1)}), 6},
		{msgParts(impl.Msg{Kind: 1, From: 2, To: 2}), 2},
	} {
		own := ownDecoder(c.parts[0][0])
		want := [3]verdict{{4, 0}, {4, 0}, {4, 0}}
		want[own] = verdict{6, c.fault}
		if got := askAll(t, seal(c.parts...)); got != want {
			t.Errorf("%x: %v, not %v", c.parts, got, want)
		}
	}
}

// Each case has this fault and all those behind it.
func TestTheFirstFaultIsAnswered(t *testing.T) {
	body := []byte{9, 128, 0}
	over := append(seal(body), make([]byte, impl.MaxFrame)...)
	wantAll(t, "size", over, 1, 1, 1)
	wantAll(t, "size", seal(body)[:8], 1, 1, 1)
	length := seal(body)
	length[0]++
	length[4]++
	wantAll(t, "length", length, 2, 2, 2)
	sum := seal(body)
	sum[4]++
	wantAll(t, "sum", sum, 3, 3, 3)
	wantAll(t, "kind", seal(body), 4, 4, 4)
	shape := slices.Concat(msgParts(impl.Msg{Kind: 1, From: 2, To: 2})...)
	wantAll(t, "shape", seal(shape, []byte{0}), 5, 4, 4)
	wantAll(t, "shape", seal(slices.Concat(callParts(impl.Cmd{})...), []byte{0}), 4, 5, 4)
	wantAll(t, "shape", seal(slices.Concat(replyParts(impl.Reply{})...), []byte{0}), 4, 4, 5)
}

func TestAnyBytes(t *testing.T) {
	random := rand.New(rand.NewSource(2))
	for i := range 20000 {
		b := make([]byte, random.Intn(60))
		random.Read(b)
		if i%2 == 0 {
			b = seal(b)
		}
		if i%4 == 0 && len(b) > 8 {
			b = seal([]byte{byte(1 + random.Intn(8))}, b[9:])
		}
		askAll(t, b)
	}
}
