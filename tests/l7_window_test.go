package tests

import (
	"testing"

	"loop.example/s01586/impl"
)

func timed(servers, elect, beat, retry int) impl.Setup {
	return impl.Setup{Servers: servers, Clients: 1, Elect: elect, Beat: beat, Retry: retry, Disk: 1000}
}

func wantWindow(t *testing.T, su impl.Setup, log, down, want int) {
	t.Helper()
	if got := impl.WindowBound(su, log, down); got != want {
		t.Errorf("%+v, log %d, %d down: %d, not %d", su, log, down, got, want)
	}
}

func TestWindowNumbers(t *testing.T) {
	wantWindow(t, timed(3, 24, 6, 5), 10, 1, 4*24*7+4*17+4*9+40)
	wantWindow(t, timed(3, 24, 1, 1), 0, 0, 4*24*7+4*7+3*5+40)
	wantWindow(t, timed(5, 40, 10, 7), 100, 2, 4*40*9+4*109+7*11+40)
	wantWindow(t, timed(7, 56, 14, 1000), 4096, 3, 4*56*11+4*4107+10*1004+40)
	wantWindow(t, timed(7, 1000, 250, 1), 1, 1, 4*1000*11+4*12+8*5+40)
	wantWindow(t, timed(5, 41, 3, 20), 0, 1, 1476+36+144+40)
}

func TestWindowLimits(t *testing.T) {
	for _, size := range sizes {
		su := timed(size, 8*size, 2*size, 5)
		whole := impl.WindowBound(su, 0, 0)
		if whole == 0 {
			t.Errorf("%+v is well-timed", su)
		}
		for _, c := range []struct {
			log, down int
			fits      bool
		}{
			{0, 0, true}, {-1, 0, false}, {impl.MaxLog, 0, true}, {impl.MaxLog + 1, 0, false}, {1 << 40, 0, false}, {-1 << 62, 0, false},
			{0, -1, false}, {0, size / 2, true}, {0, size/2 + 1, false}, {0, size, false}, {0, 1 << 62, false}, {-1, -1, false},
		} {
			want := 0
			if c.fits {
				want = whole + 4*c.log + c.down*9
			}
			wantWindow(t, su, c.log, c.down, want)
		}
		late := su
		late.Elect, late.Beat = 8*size-1, 1
		wantWindow(t, late, 0, 0, 0)
		late = su
		late.Beat++
		wantWindow(t, late, 0, 0, 0)
		late.Elect += 3
		wantWindow(t, late, 0, 0, 0)
		late.Elect++
		wantWindow(t, late, 0, 0, whole+16*(size+4))
	}
}

func TestWindowIllFormed(t *testing.T) {
	good := timed(3, 24, 6, 5)
	for _, n := range edges {
		for i := range 6 {
			su := good
			*[]*int{&su.Servers, &su.Clients, &su.Elect, &su.Beat, &su.Retry, &su.Disk}[i] = n
			if impl.SetupFault(su) != 0 {
				wantWindow(t, su, 0, 0, 0)
			}
		}
	}
	wantWindow(t, impl.Setup{}, 0, 0, 0)
	bad := timed(4, 100, 1, 5)
	wantWindow(t, bad, 0, 0, 0)
	bad = good
	bad.Disk = -1
	wantWindow(t, bad, 0, 0, 0)
	bad = good
	bad.Clients = 9
	wantWindow(t, bad, 0, 0, 0)
	bad = good
	bad.Retry = 0
	wantWindow(t, bad, 0, 0, 0)
	bad = good
	bad.Beat = 0
	wantWindow(t, bad, 0, 0, 0)
}
