package tests

import (
	"math"
	"math/rand"
	"slices"
	"testing"

	"loop.example/s01586/impl"
)

// Promise 6: what a bag takes it gives back, each Id once, and nothing goes through a wall.

func samePacket(a, b impl.Packet) bool {
	return a.Id == b.Id && a.From == b.From && a.To == b.To && slices.Equal(a.Bytes, b.Bytes)
}

func sameBag(a, b impl.Bag) bool {
	return a.Next == b.Next && slices.Equal(a.Walls, b.Walls) && slices.EqualFunc(a.Packets, b.Packets, samePacket)
}

func packet(id, from, to int) impl.Packet {
	return impl.Packet{Id: id, From: from, To: to, Bytes: []byte{byte(id), byte(from), byte(to)}}
}

// addresses: all there are, and what stands next to them.
var addresses = []int{math.MinInt, -1, 0, 1, 2, 3, 4, 5, 6, 7, 8, 9, 10, 11, 12, 13, 14, 15, 16, 17, 18, 19, 20, math.MaxInt}

func addressOk(a int) bool {
	return a >= 1 && a <= 7 || a >= 11 && a <= 18
}

func wantPut(t *testing.T, b impl.Bag, p impl.Packet, code int) {
	t.Helper()
	want := impl.PutAnswer{Code: code, Bag: b}
	switch code {
	case 0:
		want.Id = b.Next
		p.Id = b.Next
		want.Bag.Next++
		want.Bag.Packets = append(slices.Clone(b.Packets), p)
	case 1:
		want.Bag = impl.Bag{}
	}
	got := impl.BagPut(b, p.From, p.To, p.Bytes)
	if got.Code != code || got.Id != want.Id || !sameBag(got.Bag, want.Bag) {
		t.Errorf("%+v into %+v: %+v, not %+v", p, b, got, want)
	}
	if code != 0 {
		return
	}
	for _, last := range []int{len(got.Bag.Packets) - 1, -1, 2*len(got.Bag.Packets) - 1} {
		if k := impl.BagTake(got.Bag, last, 0); k.Code != 0 || k.Lost != 0 || !samePacket(k.Packet, p) || !slices.EqualFunc(k.Bag.Packets, b.Packets, samePacket) {
			t.Errorf("%+v put, %+v taken at %d", p, k, last)
		}
	}
}

func TestP6PutAddresses(t *testing.T) {
	for _, b := range []impl.Bag{{Next: 1}, {Next: 9, Packets: []impl.Packet{packet(3, 1, 2), packet(8, 11, 1)}}} {
		for _, from := range addresses {
			for _, to := range addresses {
				code := 0
				if !addressOk(from) || !addressOk(to) || from == to {
					code = 2
				}
				wantPut(t, b, packet(0, from, to), code)
			}
		}
	}
}

func TestP6PutBytes(t *testing.T) {
	for size, code := range map[int]int{0: 2, 1: 0, 2: 0, impl.MaxFrame: 0, impl.MaxFrame + 1: 2, 3 * impl.MaxFrame: 2} {
		wantPut(t, impl.Bag{Next: 4}, impl.Packet{From: 1, To: 2, Bytes: make([]byte, size)}, code)
		wantPut(t, impl.Bag{Next: 4}, impl.Packet{From: 12, To: 2, Bytes: make([]byte, size)}, code)
	}
	wantPut(t, impl.Bag{Next: 4}, impl.Packet{From: 1, To: 2}, 2)
}

func TestP6PutWalls(t *testing.T) {
	for set := range 1 << 7 {
		b := impl.Bag{Next: 2, Packets: []impl.Packet{packet(1, 1, 2)}}
		for id := 1; id <= 7; id++ {
			if set>>(id-1)&1 == 1 {
				b.Walls = append(b.Walls, id)
			}
		}
		for _, p := range []impl.Packet{packet(0, 1, 2), packet(0, 7, 3), packet(0, 4, 11), packet(0, 18, 5), packet(0, 11, 18), packet(0, 11, 1), packet(0, 17, 7), packet(0, 6, 16)} {
			code := 0
			if slices.Contains(b.Walls, p.From) || slices.Contains(b.Walls, p.To) {
				code = 3
			}
			wantPut(t, b, p, code)
			k := impl.BagTake(impl.Bag{Next: 9, Packets: []impl.Packet{packet(8, p.From, p.To)}, Walls: b.Walls}, 0, 0)
			if k.Code != 0 || k.Lost != code/3 || k.Packet.Id != 8 {
				t.Errorf("walls %v: %+v", b.Walls, k)
			}
		}
	}
}

func fullBag(n int) impl.Bag {
	b := impl.Bag{Next: n + 1}
	for i := range n {
		b.Packets = append(b.Packets, packet(i+1, 1+i%7, 11+i%8))
	}
	return b
}

func TestP6PutLimits(t *testing.T) {
	wantPut(t, fullBag(impl.MaxPackets-1), packet(0, 1, 2), 0)
	wantPut(t, fullBag(impl.MaxPackets), packet(0, 1, 2), 4)
	wantPut(t, fullBag(impl.MaxPackets+1), packet(0, 1, 2), 1)
	wantPut(t, impl.Bag{Next: impl.MaxNow - 1}, packet(0, 1, 2), 0)
	wantPut(t, impl.Bag{Next: impl.MaxNow}, packet(0, 1, 2), 4)
	wantPut(t, impl.Bag{Next: impl.MaxNow + 1}, packet(0, 1, 2), 1)
	last := impl.Bag{Next: impl.MaxNow, Packets: []impl.Packet{packet(impl.MaxNow-1, 1, 2)}}
	wantPut(t, last, packet(0, 1, 2), 4)
	if k := impl.BagTake(last, 5, 0); k.Code != 0 || k.Packet.Id != impl.MaxNow-1 || !sameBag(k.Bag, impl.Bag{Next: impl.MaxNow}) {
		t.Errorf("%+v", k)
	}
}

// Each case has this fault and all those behind it.
func TestP6FirstFault(t *testing.T) {
	full := fullBag(impl.MaxPackets)
	full.Walls = []int{1}
	wantPut(t, full, packet(0, 1, 1), 2)
	wantPut(t, full, impl.Packet{From: 1, To: 2}, 2)
	wantPut(t, full, packet(0, 1, 2), 3)
	wantPut(t, full, packet(0, 3, 2), 4)
	full.Walls = []int{1, 1}
	wantPut(t, full, packet(0, 1, 1), 1)
}

func wantTake(t *testing.T, b impl.Bag, pick, keep, at int) {
	t.Helper()
	got := impl.BagTake(b, pick, keep)
	want := b
	if keep == 0 {
		want.Packets = slices.Delete(slices.Clone(b.Packets), at, at+1)
	}
	if got.Code != 0 || got.Lost != 0 || !samePacket(got.Packet, b.Packets[at]) || !sameBag(got.Bag, want) {
		t.Errorf("pick %d, keep %d of %+v: %+v", pick, keep, b, got)
	}
}

func TestP6Take(t *testing.T) {
	for _, n := range []int{1, 2, 3, 10, impl.MaxPackets} {
		b := fullBag(n)
		b.Next = 5000
		for _, keep := range []int{0, 1, -1, math.MinInt, math.MaxInt} {
			for _, pick := range append([]int{n - 1, n, n + 1, -n, -n - 1, 1 - n}, wideDraws...) {
				if n < 20 || keep == 0 && pick%3 == 0 {
					wantTake(t, b, pick, keep, floorMod(pick, n))
				}
			}
		}
	}
	for _, b := range []impl.Bag{{Next: 1}, {Next: 77, Walls: []int{2, 4}}, {Next: impl.MaxNow}} {
		got := impl.BagTake(b, 0, 0)
		if got.Code != 2 || got.Lost != 0 || !samePacket(got.Packet, impl.Packet{}) || !sameBag(got.Bag, b) {
			t.Errorf("taken from an empty bag: %+v", got)
		}
	}
}

// The bag of the answer is the one behind the taking, not the one ahead of it.
func TestP6TakeTheOnlyPacket(t *testing.T) {
	b := impl.Bag{Next: 2, Packets: []impl.Packet{{Id: 1, From: 1, To: 2, Bytes: []byte{7}}}}
	for keep, want := range []impl.Bag{{Next: 2}, b} {
		k := impl.BagTake(b, 0, keep)
		if k.Code != 0 || k.Lost != 0 || !samePacket(k.Packet, b.Packets[0]) || !sameBag(k.Bag, want) {
			t.Errorf("keep %d: %+v", keep, k)
		}
	}
}

func illBags() []impl.Bag {
	one := func(p impl.Packet) impl.Bag { return impl.Bag{Next: 9, Packets: []impl.Packet{p}} }
	walled := func(ids ...int) impl.Bag { return impl.Bag{Next: 9, Walls: ids} }
	two := func(a, b int) impl.Bag {
		return impl.Bag{Next: 9, Packets: []impl.Packet{packet(a, 1, 2), packet(b, 1, 2)}}
	}
	out := []impl.Bag{
		{}, {Next: -1}, {Next: math.MinInt}, {Next: impl.MaxNow + 1}, {Next: math.MaxInt}, fullBag(impl.MaxPackets + 1),
		one(packet(0, 1, 2)), one(packet(-1, 1, 2)), one(packet(9, 1, 2)), one(packet(10, 1, 2)), one(packet(math.MinInt, 1, 2)), one(packet(math.MaxInt, 1, 2)),
		two(3, 3), two(4, 3), two(8, 9), two(0, 1), two(1, math.MinInt),
		one(impl.Packet{Id: 1, From: 1, To: 2}), one(impl.Packet{Id: 1, From: 1, To: 2, Bytes: make([]byte, impl.MaxFrame+1)}),
		walled(0), walled(8), walled(-1), walled(11), walled(1, 1), walled(2, 1), walled(1, 3, 2), walled(7, 8), walled(math.MinInt), walled(math.MaxInt),
		{Next: 1, Packets: []impl.Packet{packet(1, 1, 2)}},
	}
	for _, from := range addresses {
		for _, to := range addresses {
			if !addressOk(from) || !addressOk(to) || from == to {
				out = append(out, one(packet(1, from, to)))
			}
		}
	}
	return out
}

func TestP6IllFormedBags(t *testing.T) {
	for _, b := range illBags() {
		wantPut(t, b, packet(0, 3, 4), 1)
		wantPut(t, b, packet(0, 3, 3), 1)
		for _, keep := range []int{0, 1} {
			if k := impl.BagTake(b, 0, keep); k.Code != 1 || k.Lost != 0 || !samePacket(k.Packet, impl.Packet{}) || !sameBag(k.Bag, impl.Bag{}) {
				t.Errorf("taken from %+v: %+v", b, k)
			}
		}
		for _, id := range []int{0, 1, 8} {
			if got := impl.BagWall(b, id, 1); !sameBag(got, impl.Bag{}) {
				t.Errorf("a wall in %+v: %+v", b, got)
			}
		}
	}
}

func TestP6Walls(t *testing.T) {
	for set := range 1 << 7 {
		b := impl.Bag{Next: 3, Packets: []impl.Packet{packet(1, 1, 2), packet(2, 3, 11)}}
		for id := 1; id <= 7; id++ {
			if set>>(id-1)&1 == 1 {
				b.Walls = append(b.Walls, id)
			}
		}
		for _, id := range addresses {
			up, down := b, b
			up.Walls, down.Walls = slices.Clone(b.Walls), slices.Clone(b.Walls)
			if id >= 1 && id <= 7 {
				down.Walls = slices.DeleteFunc(down.Walls, func(w int) bool { return w == id })
				up.Walls = append(slices.Clone(down.Walls), id)
				slices.Sort(up.Walls)
			}
			for _, n := range []int{1, 2, -1, math.MinInt} {
				if got := impl.BagWall(b, id, n); !sameBag(got, up) {
					t.Errorf("%v, %d up: %v, not %v", b.Walls, id, got, up)
				}
			}
			if got := impl.BagWall(b, id, 0); !sameBag(got, down) {
				t.Errorf("%v, %d down: %v, not %v", b.Walls, id, got, down)
			}
		}
	}
}

// A wall ahead of the sending keeps a packet out, one ahead of the delivery loses it, one taken down in time does neither.
func TestP6WallsInTime(t *testing.T) {
	b := impl.BagPut(impl.Bag{Next: 1}, 2, 12, []byte("x")).Bag
	walled := impl.BagWall(b, 2, 1)
	if impl.BagPut(walled, 2, 3, []byte("y")).Code != 3 || impl.BagPut(walled, 13, 2, []byte("y")).Code != 3 || impl.BagPut(walled, 1, 3, []byte("y")).Code != 0 {
		t.Error("sending past a wall")
	}
	if k := impl.BagTake(walled, 0, 1); k.Lost != 1 || len(k.Bag.Packets) != 1 || string(k.Packet.Bytes) != "x" {
		t.Errorf("delivery past a wall: %+v", k)
	}
	opened := impl.BagWall(walled, 2, 0)
	if k := impl.BagTake(opened, 0, 0); k.Lost != 0 || !sameBag(opened, b) {
		t.Errorf("delivery past an opened wall: %+v", k)
	}
	if impl.BagPut(opened, 2, 3, []byte("y")).Id != 2 {
		t.Error("sending past an opened wall")
	}
}

// Any turn of puts and takes: Ids rise, none comes twice, the bag is what a plain list is.
func TestP6AnyTurn(t *testing.T) {
	random := rand.New(rand.NewSource(9))
	for range 300 {
		b := impl.Bag{Next: 1 + random.Intn(5)}
		var list []impl.Packet
		ids := map[int]int{}
		for range 60 {
			switch random.Intn(3) {
			case 0, 1:
				p := impl.BagPut(b, 1+random.Intn(7), 11+random.Intn(8), []byte{byte(random.Intn(256))})
				ids[p.Id]++
				list = append(list, p.Bag.Packets[len(p.Bag.Packets)-1])
				if p.Code != 0 || p.Id != b.Next || ids[p.Id] != 1 {
					t.Fatalf("%+v", p)
				}
				b = p.Bag
			case 2:
				pick, keep := random.Intn(200)-100, random.Intn(2)
				k := impl.BagTake(b, pick, keep)
				if k.Code == 0 && keep == 0 {
					at := floorMod(pick, len(list))
					list = slices.Delete(list, at, at+1)
				}
				b = k.Bag
			}
			if !slices.EqualFunc(b.Packets, list, samePacket) {
				t.Fatalf("%+v, not %+v", b, list)
			}
		}
	}
}
