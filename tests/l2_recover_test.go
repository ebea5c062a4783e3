package tests

import (
	"encoding/binary"
	"math/rand"
	"slices"
	"testing"

	"loop.example/s01586/impl"
)

// heads: journals that read, to stand ahead of what does not.
func heads() [][]impl.Record {
	return [][]impl.Record{
		nil,
		{hard(3, 2)},
		{hard(1, 1), add(1, 1), hard(3, 2), add(2, 1), add(3, 3), cut(1), add(2, 2)},
	}
}

func stopBehindHeads(t *testing.T, what string, tail []byte, code int) {
	t.Helper()
	for _, h := range heads() {
		wantStop(t, what, h, stableOf(h...), tail, code)
	}
}

func TestRecoverWhole(t *testing.T) {
	stopBehindHeads(t, "nothing left", nil, 0)
	big := []impl.Record{hard(impl.MaxTerm, 7)}
	for i := range impl.MaxLog {
		big = append(big, add(i+1, 1+i/2))
	}
	wantStop(t, "the longest log", big, stableOf(big...), nil, 0)
	wantStop(t, "one entry more", big, stableOf(big...), journal(add(impl.MaxLog+1, impl.MaxTerm)), 4)
	wantStop(t, "the last once more", big, stableOf(big...), journal(add(impl.MaxLog, impl.MaxTerm)), 5)
	again := append(slices.Clone(big), cut(0), add(1, 5), cut(1), cut(1), cut(0), hard(impl.MaxTerm, 7))
	wantStop(t, "cut and begun anew", again, stableOf(again...), nil, 0)
}

func TestRecoverTornHeads(t *testing.T) {
	whole := journal(hard(9, 3))
	for n := 1; n < len(whole); n++ {
		stopBehindHeads(t, "a torn record", whole[:n], 1)
	}
	for n := 1; n < 9; n++ {
		for _, c := range []byte{0, 1, 255} {
			stopBehindHeads(t, "up to 8 bytes", slices.Repeat([]byte{c}, n), 1)
		}
	}
	stopBehindHeads(t, "9 bytes of 0", make([]byte, 9), 2)
	stopBehindHeads(t, "9 bytes of 255", slices.Repeat([]byte{255}, 9), 2)
}

// framed has this length told, a right or a wrong sum, and a body of n bytes.
func framed(length uint32, n int, rightSum bool) []byte {
	out := seal(slices.Repeat([]byte{200}, n))
	binary.LittleEndian.PutUint32(out, length)
	if !rightSum {
		out[4]++
	}
	return out
}

func TestRecoverLengths(t *testing.T) {
	const longest = impl.MaxFrame - 8
	for _, right := range []bool{true, false} {
		code := 4
		if !right {
			code = 3
		}
		stopBehindHeads(t, "a body of 1", framed(1, 1, right), code)
		stopBehindHeads(t, "the longest body", framed(longest, longest, right), code)
		stopBehindHeads(t, "the longest, a byte short", framed(longest, longest-1, right), 1)
		stopBehindHeads(t, "a byte short", framed(2, 1, right), 1)
		for _, length := range []uint32{0, longest + 1, longest + 2, 1 << 16, 1 << 24, 1<<31 - 1, 1 << 31, 1<<32 - 8, 1<<32 - 1} {
			for _, n := range []int{1, longest, longest + 1} {
				stopBehindHeads(t, "no length of a record", framed(length, n, right), 2)
			}
		}
	}
}

func TestRecoverSums(t *testing.T) {
	for _, r := range []impl.Record{hard(9, 3), add(1, 1), cut(0)} {
		for _, rest := range [][]byte{nil, journal(hard(9, 9)), {1, 2, 3}} {
			whole := journal(r)
			for at := 4; at < len(whole); at++ {
				for _, x := range []byte{1, 128, 255} {
					bent := slices.Clone(whole)
					bent[at] ^= x
					stopBehindHeads(t, "a bent record", append(bent, rest...), 3)
				}
			}
		}
	}
}

func TestRecoverOtherKinds(t *testing.T) {
	for kind := range 256 {
		if kind >= 11 && kind <= 13 {
			continue
		}
		for _, rest := range [][]byte{nil, {0}, {9, 1}, {1, 1, 0, 0, 0, 0, 0, 0}} {
			stopBehindHeads(t, "another first byte", seal([]byte{byte(kind)}, rest), 4)
		}
	}
	for _, b := range frameSamples() {
		stopBehindHeads(t, "a frame of the wire", b, 4)
	}
}

func TestRecoverUnreadableBodies(t *testing.T) {
	entry := impl.Record{Kind: impl.RecAdd, Index: 1, Entry: impl.Entry{Term: 300, Cmd: impl.Cmd{Client: 1, Seq: 300, Op: impl.OpCas, Key: "key", Val: "val", Old: "old"}}}
	for _, r := range []impl.Record{hard(300, 3), entry, cut(300)} {
		parts := recordParts(r)
		body := slices.Concat(parts...)
		for n := 1; n < len(body); n++ {
			stopBehindHeads(t, "a beginning", seal(body[:n]), 4)
		}
		for _, c := range []byte{0, 1, 128, 255} {
			stopBehindHeads(t, "a byte left over", seal(body, []byte{c}), 4)
		}
		for i := 1; i < len(parts); i++ {
			other := slices.Clone(parts)
			for n := 2; n <= 6; n++ {
				if other[i] = widen(parts[i], n); len(other[i]) > len(parts[i]) {
					stopBehindHeads(t, "a number not in its shortest form", seal(other...), 4)
				}
			}
			other[i] = number(wireTop)
			stopBehindHeads(t, "the greatest number", seal(other...), 4)
		}
	}
}

func TestRecoverOutOfPlace(t *testing.T) {
	voted := []impl.Record{hard(5, 2)}
	open := []impl.Record{hard(5, 0)}
	logged := []impl.Record{hard(5, 2), add(1, 2), add(2, 4)}
	for _, c := range []struct {
		head []impl.Record
		r    impl.Record
		code int
	}{
		{voted, hard(4, 2), 5}, {voted, hard(0, 0), 5}, {voted, hard(5, 0), 5}, {voted, hard(5, 1), 5}, {voted, hard(5, 3), 5},
		{voted, hard(5, 2), 0}, {voted, hard(6, 0), 0}, {voted, hard(6, 3), 0}, {voted, hard(impl.MaxTerm, 7), 0},
		{open, hard(5, 0), 0}, {open, hard(5, 7), 0}, {open, hard(4, 0), 5}, {open, hard(6, 0), 0},
		{nil, hard(0, 0), 0}, {nil, hard(1, 0), 0}, {nil, add(1, 1), 5}, {nil, cut(0), 0}, {nil, cut(1), 5},
		{voted, add(2, 5), 5}, {voted, add(1, 6), 5}, {voted, add(1, 5), 0}, {voted, add(1, 1), 0}, {voted, add(impl.MaxLog, 5), 5},
		{logged, add(1, 4), 5}, {logged, add(2, 4), 5}, {logged, add(4, 4), 5}, {logged, add(3, 3), 5}, {logged, add(3, 1), 5}, {logged, add(3, 6), 5},
		{logged, add(3, 4), 0}, {logged, add(3, 5), 0},
		{logged, cut(3), 5}, {logged, cut(impl.MaxLog), 5}, {logged, cut(2), 0}, {logged, cut(1), 0}, {logged, cut(0), 0},
	} {
		head, tail := c.head, journal(c.r)
		if c.code == 0 {
			head, tail = append(slices.Clone(head), c.r), nil
		}
		wantStop(t, "a record's place", head, stableOf(head...), tail, c.code)
		if c.code != 0 {
			wantStop(t, "what stands behind it is not read", head, stableOf(head...), append(tail, journal(hard(9, 1))...), c.code)
		}
	}
}

// A cut gives the places behind it free again, with the terms that stay.
func TestRecoverBehindACut(t *testing.T) {
	head := []impl.Record{hard(5, 2), add(1, 2), add(2, 4), cut(1)}
	for term := 1; term <= 6; term++ {
		if term < 2 || term > 5 {
			wantStop(t, "behind a cut", head, stableOf(head...), journal(add(2, term)), 5)
			continue
		}
		whole := append(slices.Clone(head), add(2, term))
		wantStop(t, "behind a cut", whole, stableOf(whole...), nil, 0)
	}
	wantStop(t, "behind a cut", head, stableOf(head...), journal(add(3, 5)), 5)
}

func TestRecoverBigDisks(t *testing.T) {
	full := slices.Concat(slices.Repeat(journal(cut(0)), 104851), slices.Repeat(journal(hard(0, 0)), 6))
	if len(full) != impl.MaxDisk {
		t.Fatal(len(full))
	}
	if got := impl.Recover(full); !sameRecovery(got, impl.Recovery{Good: impl.MaxDisk, Records: 104857}) {
		t.Errorf("MaxDisk bytes: %+v", got)
	}
	if got := impl.Recover(full[:impl.MaxDisk-1]); !sameRecovery(got, impl.Recovery{Code: 1, Good: impl.MaxDisk - 11, Records: 104856}) {
		t.Errorf("a byte fewer: %+v", got)
	}
	for _, data := range [][]byte{append(full, 0), make([]byte, impl.MaxDisk+1), slices.Repeat(journal(hard(1, 1)), impl.MaxDisk/10)} {
		if got := impl.Recover(data); !sameRecovery(got, impl.Recovery{Code: 6}) {
			t.Errorf("%d bytes: %+v", len(data), got)
		}
	}
}

// Each case has this fault and as many of those behind it as can be.
func TestRecoverFirstFault(t *testing.T) {
	head := []impl.Record{hard(5, 2)}
	wrong := seal([]byte{14, 128})
	wrong[4]++
	wantStop(t, "length ahead of sum and body", head, stableOf(head...), framed(0, 5, false), 2)
	wantStop(t, "torn ahead of sum and body", head, stableOf(head...), wrong[:len(wrong)-1], 1)
	wantStop(t, "sum ahead of body", head, stableOf(head...), wrong, 3)
	placed := journal(hard(4, 8))
	wantStop(t, "body ahead of place", head, stableOf(head...), placed, 4)
	placed[4]++
	wantStop(t, "sum ahead of place", head, stableOf(head...), placed, 3)
}

// randomJournal has records that are mostly in place, and now and then one that is bent, cut short or made up.
func randomJournal(random *rand.Rand) []byte {
	var out []byte
	var s impl.Stable
	for range random.Intn(12) {
		r := hard(s.Term+random.Intn(3), random.Intn(4))
		switch n := len(s.Log); {
		case random.Intn(3) > 0:
			r = add(n+1, max(1, s.Term-random.Intn(2)))
		case random.Intn(3) == 0:
			r = cut(random.Intn(n + 2))
		}
		if random.Intn(12) == 0 {
			r.Index, r.Vote = max(0, r.Index+random.Intn(3)-1), random.Intn(9)
		}
		b := journal(r)
		if random.Intn(25) == 0 {
			b[random.Intn(len(b))] ^= 1 << random.Intn(8)
		}
		if random.Intn(25) == 0 {
			b = seal(b[8 : 9+random.Intn(len(b)-8)])
		}
		out = append(out, b...)
		s = modelRecover(out).Stable
	}
	return out[:len(out)-min(len(out), random.Intn(3))]
}

func TestRecoverAgainstModel(t *testing.T) {
	random := rand.New(rand.NewSource(3))
	var seen [6]int
	for range 20000 {
		data := randomJournal(random)
		got, want := impl.Recover(data), modelRecover(data)
		if !sameRecovery(got, want) {
			t.Fatalf("%x: %+v, not %+v", data, got, want)
		}
		again := impl.Recover(data[:got.Good])
		if again.Code != 0 || again.Good != got.Good || !sameStable(again.Stable, got.Stable) {
			t.Fatalf("%x: the good part reads as %+v", data, again)
		}
		seen[got.Code]++
	}
	if slices.Min(seen[:]) < 50 {
		t.Errorf("codes %v: the test says little", seen)
	}
}

func TestRecoverAnyBytes(t *testing.T) {
	random := rand.New(rand.NewSource(4))
	for range 5000 {
		data := make([]byte, random.Intn(200))
		random.Read(data)
		if got, want := impl.Recover(data), modelRecover(data); !sameRecovery(got, want) {
			t.Fatalf("%x: %+v, not %+v", data, got, want)
		}
	}
}
