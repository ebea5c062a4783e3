package tests

import (
	"math/rand"
	"testing"

	"loop.example/s01586/impl"
)

// Promise 17: a script that is told and read again is the same, and RunText tells what RunCluster reports.

// drawTold: any well-formed script whose texts are words, each number at an end of its range or between.
func drawTold(random *rand.Rand) impl.Script {
	su := impl.Setup{Servers: sizes[random.Intn(3)], Clients: 1 + random.Intn(8), Elect: 2 + random.Intn(999), Retry: 1 + random.Intn(1000), Disk: random.Intn(impl.MaxDisk + 1)}
	su.Beat = 1 + random.Intn(su.Elect)
	between := func(least, most int) int {
		return []int{least, most, least + random.Intn(most-least+1)}[random.Intn(3)]
	}
	word := func() string {
		b := make([]byte, between(1, impl.MaxText))
		for i := range b {
			b[i] = byte(between(33, 126))
		}
		return string(b)
	}
	server, client, times, pick := func() int { return between(1, su.Servers) }, func() int { return between(1, su.Clients) }, func() int { return between(1, impl.MaxBurst) }, func() int { return between(0, impl.MaxPackets-1) }
	var steps []impl.Step
	for range random.Intn(60) {
		steps = append(steps, []impl.Step{
			stTick(server(), times()), stDeliver(pick()), stRepeat(pick()), stDrop(pick()), stSpoil(pick(), between(0, impl.MaxFrame), between(0, 254)),
			stCrash(server()), stTear(server(), between(0, impl.MaxDisk)), stStart(server()), stWall(server()), stOpen(server()),
			stGet(client(), word()), stPut(client(), word(), word()), stAsk(client(), delOf(0, 0, word())), stAsk(client(), casOf(0, 0, word(), word(), word())),
			stPoke(client()), stCalm(times()), stFlow(times()),
		}[random.Intn(17)])
	}
	var draws []int
	for range random.Intn(20) {
		draws = append(draws, between(0, impl.MaxSeq))
	}
	return scriptOf(su, draws, steps...)
}

func wantReadAgain(t *testing.T, sc impl.Script) string {
	t.Helper()
	text := impl.TellScript(sc)
	if text != modelTell(sc) {
		t.Fatalf("told as %.500q", text)
	}
	if got := impl.ParseScript(text); got.Code != 0 || got.Line != 0 || !sameScript(got.Script, sc) {
		t.Fatalf("code %d in line %d, %s, told as %.500q", got.Code, got.Line, told(got.Script), text)
	}
	return text
}

func TestP17ToldAndReadAgain(t *testing.T) {
	random := rand.New(rand.NewSource(721))
	for range 2000 {
		wantReadAgain(t, drawTold(random))
	}
	for _, st := range append(edgeSteps(), allSteps()...) {
		wantReadAgain(t, scriptOf(plainSetup(), nil, st))
	}
	wantReadAgain(t, scriptOf(plainSetup(), nil))
	wantReadAgain(t, scriptOf(plainSetup(), make([]int, 4096)))
	wantReadAgain(t, impl.ParseScript(longText(65536)).Script)
}

func TestP17RunTextTellsTheReport(t *testing.T) {
	random := rand.New(rand.NewSource(722))
	lines := 0
	for i := range 400 {
		sc := drawScript(random)
		if i%8 == 0 {
			sc = drawTold(random)
		}
		text := wantReadAgain(t, sc)
		got, want := impl.RunText(text), modelText(impl.RunCluster(sc))
		if got != want {
			t.Fatalf("%.2000s, not %.2000s, of %s", got, want, text)
		}
		lines += len(got)
	}
	if lines < 100000 {
		t.Errorf("only %d bytes told", lines)
	}
}
