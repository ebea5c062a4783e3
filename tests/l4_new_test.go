package tests

import (
	"math"
	"testing"

	"loop.example/s01586/impl"
)

func stableSamples() []impl.Stable {
	return []impl.Stable{
		{}, {Term: 1}, {Term: impl.MaxTerm, Vote: 3}, {Term: 4, Vote: 1, Log: blanks(1, 2, 4)},
		{Term: 2, Vote: 2, Log: []impl.Entry{putEntry(1, 1, "v"), {Term: 2}}}, {Term: 1, Log: longLog(impl.MaxLog, 1)},
	}
}

func TestNewNode(t *testing.T) {
	for _, size := range sizes {
		for id := 1; id <= size; id++ {
			for _, st := range stableSamples() {
				want := impl.Node{Id: id, Size: size, Elect: 12, Beat: 4, Term: st.Term, Vote: st.Vote, Log: st.Log, Deadline: 17}
				got := impl.NewNode(id, size, 12, 4, st, 5)
				if !sameNode(got, want) || impl.NodeFault(got) != 0 {
					t.Errorf("%s, not %s", told(got), told(want))
				}
			}
		}
	}
}

func TestNewNodeDraws(t *testing.T) {
	for _, elect := range []int{2, 3, 150, impl.MaxElect} {
		for _, draw := range append([]int{elect - 1, elect, elect + 1, -elect}, wideDraws...) {
			got := impl.NewNode(1, 3, elect, elect, impl.Stable{}, draw)
			if got.Deadline != elect+floorMod(draw, elect) || impl.NodeFault(got) != 0 {
				t.Errorf("draw %d of %d: %s", draw, elect, told(got))
			}
		}
	}
}

func TestNewNodeRefuses(t *testing.T) {
	fine := impl.Stable{Term: 3, Vote: 3, Log: blanks(1, 3)}
	check := func(id, size, elect, beat int, st impl.Stable, ok bool) {
		t.Helper()
		got := impl.NewNode(id, size, elect, beat, st, 9)
		if ok != (got.Id == id && got.Term == st.Term && got.Size == size) || !ok && !sameNode(got, impl.Node{}) {
			t.Errorf("server %d of %d, %d, %d, %s: %s", id, size, elect, beat, told(st), told(got))
		}
	}
	for _, x := range []int{math.MinInt, -1, 0, 1, 2, 3, 4, 5, 6, 7, 8, 9, 10, 11, 999, 1000, 1001, math.MaxInt} {
		check(1, x, 10, 3, fine, x == 3 || x == 5 || x == 7)
		for _, size := range sizes {
			check(x, size, 10, 3, fine, x >= 1 && x <= size)
		}
		check(1, 3, x, 1, fine, x >= 2 && x <= 1000)
		check(1, 3, 10, x, fine, x >= 1 && x <= 10)
		check(1, 3, 1000, x, fine, x >= 1 && x <= 1000)
	}
	for _, st := range illStables() {
		check(2, 7, 10, 3, st, false)
	}
	for _, size := range sizes {
		for vote := 0; vote <= 8; vote++ {
			check(1, size, 10, 3, impl.Stable{Term: 3, Vote: vote}, vote <= size)
		}
	}
}
