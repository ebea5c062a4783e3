package tests

import (
	"math"
	"math/big"
	"math/rand"
	"testing"

	"loop.example/s01586/impl"
)

// Promise 5: timeouts are in range for every draw, and the timers of calm rounds end far apart.

var wideDraws = []int{math.MinInt, math.MinInt + 1, -impl.MaxNow, -1001, -1000, -999, -2, -1, 0, 1, 2, 999, 1000, 1001, impl.MaxSeq, impl.MaxNow, math.MaxInt - 1, math.MaxInt}

// bigMod is the document's mod, by numbers without bounds.
func bigMod(x *big.Int, n int) int {
	return int(new(big.Int).Mod(x, big.NewInt(int64(n))).Int64())
}

func TestP5Timeouts(t *testing.T) {
	for elect := 1; elect <= impl.MaxElect; elect++ {
		for _, draw := range append([]int{elect - 1, elect, elect + 1, 2 * elect, -elect, -elect - 1}, wideDraws...) {
			want := elect + bigMod(big.NewInt(int64(draw)), elect)
			got := impl.TimeoutOf(elect, draw)
			if got != want || got < elect || got > 2*elect-1 {
				t.Fatalf("TimeoutOf(%d, %d) is %d, not %d", elect, draw, got, want)
			}
		}
	}
	for draw := -30; draw < 30; draw++ {
		if got := impl.TimeoutOf(10, draw); got != 10+(draw+30)%10 {
			t.Errorf("TimeoutOf(10, %d) is %d", draw, got)
		}
	}
}

func TestP5NoTimeouts(t *testing.T) {
	for _, elect := range []int{math.MinInt, -1000, -1, 0, impl.MaxElect + 1, math.MaxInt} {
		for _, draw := range wideDraws {
			if got := impl.TimeoutOf(elect, draw); got != 0 {
				t.Errorf("TimeoutOf(%d, %d) is %d", elect, draw, got)
			}
			if got := impl.SlotDraw(elect, 3, 1, 5); got != 0 {
				t.Errorf("SlotDraw(%d, 3, 1, 5) is %d", elect, got)
			}
		}
	}
}

func TestP5Slots(t *testing.T) {
	for elect := 1; elect <= impl.MaxElect; elect++ {
		for _, size := range []int{3, 5, 7} {
			for id := 1; id <= size; id++ {
				for _, round := range []int{0, 1, elect - 1, elect, elect + 1, 12345, impl.MaxNow - 1, impl.MaxNow} {
					want := bigMod(big.NewInt(int64((id-1)*(elect/size)-round)), elect)
					if got := impl.SlotDraw(elect, size, id, round); got != want {
						t.Fatalf("SlotDraw(%d, %d, %d, %d) is %d, not %d", elect, size, id, round, got, want)
					}
				}
			}
		}
	}
}

func TestP5NoSlots(t *testing.T) {
	for _, c := range [][4]int{
		{24, 4, 2, 5}, {24, 1, 1, 5}, {24, 0, 1, 5}, {24, -3, 1, 5}, {24, 9, 2, 5}, {24, 6, 2, 5}, {24, 2, 2, 5}, {24, math.MinInt, 2, 5}, {24, math.MaxInt, 2, 5},
		{24, 3, 0, 5}, {24, 3, 4, 5}, {24, 3, -1, 5}, {24, 5, 6, 5}, {24, 7, 8, 5}, {24, 7, math.MinInt, 5}, {24, 7, math.MaxInt, 5},
		{24, 3, 2, -1}, {24, 3, 2, impl.MaxNow + 1}, {24, 3, 2, math.MinInt}, {24, 3, 2, math.MaxInt},
		{0, 3, 2, 5}, {-24, 3, 2, 5}, {1001, 3, 2, 5},
	} {
		if got := impl.SlotDraw(c[0], c[1], c[2], c[3]); got != 0 {
			t.Errorf("SlotDraw of %v is %d", c, got)
		}
	}
}

func timerEnd(elect, size, id, round int) int {
	return round + impl.TimeoutOf(elect, impl.SlotDraw(elect, size, id, round))
}

func farApart(t *testing.T, elect, size int, ends [][]int) {
	t.Helper()
	for i := range ends {
		for j := range i {
			for _, a := range ends[i] {
				for _, b := range ends[j] {
					if a-b < 8 && b-a < 8 {
						t.Fatalf("elect %d, size %d: timers of %d and %d end at %d and %d", elect, size, i+1, j+1, a, b)
					}
				}
			}
		}
	}
}

func TestP5TimersEndApart(t *testing.T) {
	random := rand.New(rand.NewSource(7))
	for _, size := range []int{3, 5, 7} {
		for _, elect := range []int{8 * size, 8*size + 1, 8*size + size - 1, 9*size - 1, 100, 999, 1000} {
			ends := make([][]int, size)
			for id := 1; id <= size; id++ {
				for round := range min(2*elect, 200) {
					ends[id-1] = append(ends[id-1], timerEnd(elect, size, id, round))
				}
				for range 20 {
					ends[id-1] = append(ends[id-1], timerEnd(elect, size, id, random.Intn(3*elect)))
				}
				for back := range 2 * elect {
					ends[id-1] = append(ends[id-1], timerEnd(elect, size, id, impl.MaxNow-back))
				}
			}
			farApart(t, elect, size, ends)
		}
	}
}
