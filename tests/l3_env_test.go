package tests

import (
	"math"
	"math/rand"
	"runtime"
	"slices"
	"testing"
	"time"

	"loop.example/s01586/impl"
)

func wantFeed(t *testing.T, draws, uses, want []int) {
	t.Helper()
	if got := impl.FeedRun(draws, uses); !slices.Equal(got, want) {
		t.Errorf("draws %v, uses %v: %v, not %v", draws, uses, got, want)
	}
}

func TestFeed(t *testing.T) {
	wantFeed(t, nil, nil, nil)
	wantFeed(t, []int{5, 6}, nil, nil)
	wantFeed(t, nil, []int{0, 1, 1, 0}, []int{0, 0, 0, 0})
	wantFeed(t, []int{}, []int{1}, []int{0})
	wantFeed(t, []int{5}, []int{0, 0, 0}, []int{5, 5, 5})
	wantFeed(t, []int{5}, []int{1, 0, 1, 1}, []int{5, 0, 0, 0})
	wantFeed(t, []int{5, 6, 7}, []int{1, 1, 1}, []int{5, 6, 7})
	wantFeed(t, []int{5, 6, 7}, []int{1, 0, 1, 0, 0, 1, 1}, []int{5, 6, 6, 7, 7, 7, 0})
	wantFeed(t, []int{5, 6, 7}, []int{-1, 2, math.MinInt, math.MaxInt}, []int{5, 6, 7, 0})
	wantFeed(t, []int{math.MinInt, -1, 0, math.MaxInt}, []int{1, 1, 0, 1, 1, 1}, []int{math.MinInt, -1, 0, 0, math.MaxInt, 0})
}

func modelFeed(draws, uses []int) []int {
	var out []int
	for _, u := range uses {
		seen := 0
		if len(draws) > 0 {
			seen = draws[0]
		}
		out = append(out, seen)
		if u != 0 && len(draws) > 0 {
			draws = draws[1:]
		}
	}
	return out
}

func TestFeedAgainstModel(t *testing.T) {
	random := rand.New(rand.NewSource(8))
	for range 1000 {
		draws, uses := make([]int, random.Intn(20)), make([]int, random.Intn(30))
		for i := range draws {
			draws[i] = random.Int() - random.Int()
		}
		for i := range uses {
			uses[i] = random.Intn(3) - 1
		}
		wantFeed(t, draws, uses, modelFeed(draws, uses))
	}
}

func TestFeedLimits(t *testing.T) {
	draws, uses := make([]int, impl.MaxDraws), make([]int, impl.MaxSteps)
	for i := range draws {
		draws[i] = i + 1
	}
	for i := range uses {
		uses[i] = 1
	}
	wantFeed(t, draws, uses, draws)
	wantFeed(t, draws, uses[:3], draws[:3])
	wantFeed(t, append(draws, 9), uses, nil)
	wantFeed(t, append(draws, 9), nil, nil)
	wantFeed(t, draws, append(uses, 1), nil)
	wantFeed(t, nil, append(uses, 1), nil)
	wantFeed(t, append(draws, 9), append(uses, 1), nil)
}

// Whatever is left in the feeds, their goroutines have ended.
func TestFeedEnds(t *testing.T) {
	before := runtime.NumGoroutine()
	for i := range 400 {
		draws := make([]int, i%50)
		impl.FeedRun(draws, make([]int, i%7))
		impl.FeedRun(draws, slices.Repeat([]int{1}, i%60))
	}
	for range 1000 {
		if runtime.NumGoroutine() <= before {
			return
		}
		time.Sleep(time.Millisecond)
	}
	t.Errorf("%d goroutines, %d before", runtime.NumGoroutine(), before)
}

func TestSpoil(t *testing.T) {
	for _, size := range []int{1, 2, 3, 255, 256, 257, impl.MaxFrame} {
		b := make([]byte, size)
		for i := range b {
			b[i] = byte(i * 7)
		}
		for _, at := range append([]int{size - 1, size, size + 1, -size, -size - 1}, wideDraws...) {
			for _, x := range []int{math.MinInt, -256, -255, -254, -1, 0, 1, 253, 254, 255, 256, 509, 510, 100000, math.MaxInt} {
				want := slices.Clone(b)
				want[floorMod(at, size)] ^= byte(1 + floorMod(x, 255))
				if got := impl.Spoil(b, at, x); !slices.Equal(got, want) {
					t.Errorf("%d bytes, at %d, x %d", size, at, x)
				}
			}
		}
	}
	for _, b := range [][]byte{nil, {}, make([]byte, impl.MaxFrame+1), make([]byte, 3*impl.MaxFrame)} {
		if got := impl.Spoil(b, 0, 0); len(got) != 0 {
			t.Errorf("%d bytes spoil to %d", len(b), len(got))
		}
	}
}

func floorMod(x, n int) int {
	return (x%n + n) % n
}

// Every x changes the byte, and each of the 255 changes has its x.
func TestSpoilAlwaysChanges(t *testing.T) {
	for old := range 256 {
		seen := map[byte]int{}
		for x := -255; x < 255; x++ {
			got := impl.Spoil([]byte{byte(old)}, 3, x)
			if len(got) != 1 || got[0] == byte(old) {
				t.Fatalf("byte %d, x %d: %v", old, x, got)
			}
			seen[got[0]]++
		}
		if len(seen) != 255 {
			t.Errorf("byte %d: only %d changes", old, len(seen))
		}
	}
}
