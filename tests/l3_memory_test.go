package tests

import (
	"slices"
	"testing"

	"loop.example/s01586/impl"
)

// Chapter 0 for the surroundings: an argument, and the room behind its end, is only read; an answer is new memory.

func cloneBag(b impl.Bag) impl.Bag {
	out := impl.Bag{Next: b.Next, Walls: slices.Clone(b.Walls)}
	for _, p := range b.Packets {
		p.Bytes = slices.Clone(p.Bytes)
		out.Packets = append(out.Packets, p)
	}
	return out
}

// scribbleBag writes over all that the bag holds, and over the room behind it.
func scribbleBag(b impl.Bag) {
	for i := range b.Packets {
		scribble(b.Packets[i].Bytes[:cap(b.Packets[i].Bytes)])
	}
	packets := b.Packets[:cap(b.Packets)]
	for i := range packets {
		packets[i] = impl.Packet{Id: 99}
	}
	walls := b.Walls[:cap(b.Walls)]
	for i := range walls {
		walls[i] = 99
	}
}

func bagWays() map[string]func(impl.Bag) impl.Bag {
	return map[string]func(impl.Bag) impl.Bag{
		"put":           func(b impl.Bag) impl.Bag { return impl.BagPut(b, 1, 2, []byte{1}).Bag },
		"put refused":   func(b impl.Bag) impl.Bag { return impl.BagPut(b, 1, 1, []byte{1}).Bag },
		"put walled":    func(b impl.Bag) impl.Bag { return impl.BagPut(b, 1, 5, []byte{1}).Bag },
		"take first":    func(b impl.Bag) impl.Bag { return impl.BagTake(b, 0, 0).Bag },
		"take last":     func(b impl.Bag) impl.Bag { return impl.BagTake(b, -1, 0).Bag },
		"take and keep": func(b impl.Bag) impl.Bag { return impl.BagTake(b, 1, 1).Bag },
		"wall":          func(b impl.Bag) impl.Bag { return impl.BagWall(b, 1, 1) },
		"wall again":    func(b impl.Bag) impl.Bag { return impl.BagWall(b, 5, 1) },
		"open":          func(b impl.Bag) impl.Bag { return impl.BagWall(b, 5, 0) },
		"no server":     func(b impl.Bag) impl.Bag { return impl.BagWall(b, 8, 1) },
	}
}

func TestBagsAreNewMemory(t *testing.T) {
	for what, way := range bagWays() {
		arg := impl.Bag{Next: 9, Packets: []impl.Packet{packet(3, 1, 2), packet(5, 11, 2), packet(8, 7, 18)}, Walls: []int{3, 5, 7}}
		packets, packetRoom := roomy(arg.Packets, packet(50, 1, 2))
		walls, wallRoom := roomy(arg.Walls, 50, 51)
		arg.Packets, arg.Walls = packets, walls
		before := cloneBag(arg)
		got := way(arg)
		if !sameBag(arg, before) || packetRoom[3].Id != 50 || wallRoom[3] != 50 || wallRoom[4] != 51 {
			t.Errorf("%s changed the bag it was given", what)
		}
		want := cloneBag(got)
		scribbleBag(arg)
		if len(got.Packets) == 0 || !sameBag(got, want) {
			t.Errorf("%s shares memory with its argument", what)
		}
	}
}

func TestTakenPacketsAreNewMemory(t *testing.T) {
	for _, keep := range []int{0, 1} {
		b := impl.Bag{Next: 9, Packets: []impl.Packet{packet(3, 1, 2), packet(5, 11, 2)}}
		k := impl.BagTake(b, 1, keep)
		scribbleBag(b)
		want := cloneBag(k.Bag)
		if !samePacket(k.Packet, packet(5, 11, 2)) {
			t.Errorf("the packet became %+v", k.Packet)
		}
		scribble(k.Packet.Bytes)
		if !sameBag(k.Bag, want) {
			t.Errorf("the bag became %+v", k.Bag)
		}
	}
}

func TestPutBytesAreCopied(t *testing.T) {
	b, whole := roomy([]byte("bytes"), []byte("behind")...)
	p := impl.BagPut(impl.Bag{Next: 1}, 1, 2, b)
	scribble(p.Bag.Packets[0].Bytes)
	if string(whole) != "bytesbehind" {
		t.Errorf("the bytes became %q", whole)
	}
	p = impl.BagPut(impl.Bag{Next: 1}, 1, 2, b)
	scribble(whole)
	if string(p.Bag.Packets[0].Bytes) != "bytes" {
		t.Errorf("the packet became %q", p.Bag.Packets[0].Bytes)
	}
}

func TestSpoilCopies(t *testing.T) {
	b, whole := roomy([]byte("bytes"), []byte("behind")...)
	got := impl.Spoil(b, 2, 0)
	scribble(got[:cap(got)])
	if string(whole) != "bytesbehind" {
		t.Errorf("the bytes became %q", whole)
	}
}

func TestFeedArgumentsStay(t *testing.T) {
	draws, drawRoom := roomy([]int{5, 6}, 50)
	uses, useRoom := roomy([]int{1, 0}, 60)
	got := impl.FeedRun(draws, uses)
	if !slices.Equal(drawRoom, []int{5, 6, 50}) || !slices.Equal(useRoom, []int{1, 0, 60}) {
		t.Errorf("%v, %v", drawRoom, useRoom)
	}
	draws[0], draws[1], uses[0] = 1, 1, 7
	if !slices.Equal(got, []int{5, 6}) {
		t.Errorf("%v", got)
	}
}
