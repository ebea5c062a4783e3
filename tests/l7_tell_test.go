package tests

import (
	"slices"
	"strings"
	"testing"

	"loop.example/s01586/impl"
)

func plainSetup() impl.Setup {
	return impl.Setup{Servers: 3, Clients: 2, Elect: 4, Beat: 2, Retry: 5, Disk: 1000}
}

// illSteps: steps that are ill-formed in one thing each.
func illSteps() []impl.Step {
	var out []impl.Step
	for _, st := range allSteps() {
		fields := []*int{&st.A, &st.B, &st.C, &st.Cmd.Client, &st.Cmd.Seq}
		numbers := 1
		switch st.Kind {
		case impl.StTick, impl.StTear:
			numbers = 2
		case impl.StSpoil:
			numbers = 3
		}
		for i, field := range fields {
			was := *field
			for _, n := range []int{-1, 1, 2} {
				if i >= numbers || n < 0 {
					*field = n
					out = append(out, st)
				}
			}
			*field = was
		}
		if st.Kind != impl.StAsk {
			for _, c := range []impl.Cmd{{Op: impl.OpGet}, {Key: "k"}, {Val: "v"}, {Old: "o"}, getOf(0, 0, "k")} {
				st.Cmd = c
				out = append(out, st)
			}
		}
	}
	for _, kind := range []int{-1, 0, 15, 16, 1 << 40, -1 << 40} {
		out = append(out, impl.Step{Kind: kind}, impl.Step{Kind: kind, A: 1})
	}
	return append(out, illAsks()...)
}

// illAsks: asks whose command is ill-formed.
func illAsks() []impl.Step {
	var out []impl.Step
	for _, c := range []impl.Cmd{
		{}, {Op: -1, Key: "k"}, {Op: 5, Key: "k"}, {Op: impl.OpNone, Key: "k"}, getOf(0, 0, ""), getOf(0, 0, letters(65)), putOf(0, 0, "", "v"),
		putOf(0, 0, "k", letters(65)), casOf(0, 0, "k", letters(65), "v"), casOf(0, 0, "k", "o", letters(65)),
		{Op: impl.OpGet, Key: "k", Val: "v"}, {Op: impl.OpDel, Key: "k", Val: "v"}, {Op: impl.OpGet, Key: "k", Old: "o"}, {Op: impl.OpPut, Key: "k", Old: "o"}, {Op: impl.OpDel, Key: "k", Old: "o"},
	} {
		out = append(out, stAsk(1, c))
	}
	for _, c := range []impl.Cmd{getOf(1, 1, "k"), getOf(1, 0, "k"), getOf(0, 1, "k"), getOf(-1, -1, "k")} {
		out = append(out, impl.Step{Kind: impl.StAsk, A: 1, Cmd: c})
	}
	return out
}

// beyondSteps: each number of each step just beyond each end of its range, for plainSetup.
func beyondSteps() []impl.Step {
	return []impl.Step{
		stTick(0, 1), stTick(4, 1), stTick(1, 0), stTick(1, 10001), stDeliver(-1), stDeliver(4096), stRepeat(-1), stRepeat(4096), stDrop(-1), stDrop(4096),
		stSpoil(-1, 0, 0), stSpoil(4096, 0, 0), stSpoil(0, -1, 0), stSpoil(0, 16385, 0), stSpoil(0, 0, -1), stSpoil(0, 0, 255), stCrash(0), stCrash(4),
		stTear(0, 1), stTear(4, 1), stTear(1, -1), stTear(1, 1048577), stStart(0), stStart(4), stWall(0), stWall(4), stOpen(0), stOpen(4),
		stGet(0, "k"), stGet(3, "k"), stPoke(0), stPoke(3), stCalm(0), stCalm(10001), stFlow(0), stFlow(10001),
	}
}

// edgeSteps: each number of each step at each end of its range, for plainSetup.
func edgeSteps() []impl.Step {
	return []impl.Step{
		stTick(1, 1), stTick(3, 10000), stDeliver(0), stDeliver(4095), stRepeat(0), stRepeat(4095), stDrop(0), stDrop(4095), stSpoil(0, 0, 0), stSpoil(4095, 16384, 254),
		stCrash(1), stCrash(3), stTear(1, 0), stTear(3, 1048576), stStart(1), stStart(3), stWall(1), stWall(3), stOpen(1), stOpen(3),
		stGet(1, "k"), stPut(2, letters(64), letters(64)), stAsk(2, casOf(0, 0, letters(64), letters(64), letters(64))), stPoke(1), stPoke(2), stCalm(1), stCalm(10000), stFlow(1), stFlow(10000),
	}
}

// illScripts: scripts that are ill-formed, each in one thing.
func illScripts() []impl.Script {
	out := []impl.Script{{}, scriptOf(impl.Setup{}, nil, stCalm(1))}
	for _, st := range append(illSteps(), beyondSteps()...) {
		out = append(out, scriptOf(plainSetup(), nil, st), scriptOf(plainSetup(), []int{1}, stCalm(1), st, stOpen(1)))
	}
	for _, draw := range []int{-1, impl.MaxSeq + 1, 1 << 40, -1 << 62} {
		out = append(out, scriptOf(plainSetup(), []int{draw}), scriptOf(plainSetup(), []int{0, 1, draw, 0}, stCalm(1)))
	}
	out = append(out, scriptOf(plainSetup(), make([]int, 4097)), scriptOf(plainSetup(), nil, slices.Repeat([]impl.Step{stOpen(1)}, 4097)...))
	for i := range 6 {
		for _, n := range []int{-1, 1 << 30} {
			sc := scriptOf(plainSetup(), nil, stCalm(1))
			*[]*int{&sc.Setup.Servers, &sc.Setup.Clients, &sc.Setup.Elect, &sc.Setup.Beat, &sc.Setup.Retry, &sc.Setup.Disk}[i] = n
			out = append(out, sc)
		}
	}
	return out
}

func TestTellIllFormed(t *testing.T) {
	for _, sc := range illScripts() {
		if got := impl.TellScript(sc); got != "" {
			t.Errorf("%s is told as %.200q", told(sc), got)
		}
	}
}

func TestTellEdges(t *testing.T) {
	for _, st := range append(edgeSteps(), allSteps()...) {
		sc := scriptOf(plainSetup(), nil, st)
		if got := impl.TellScript(sc); got != modelTell(sc) {
			t.Errorf("%+v is told as %q", st, got)
		}
	}
	for _, draws := range [][]int{nil, {}, {0}, {impl.MaxSeq}, {0, 5, impl.MaxSeq}, slices.Repeat([]int{impl.MaxSeq}, 4096)} {
		sc := scriptOf(plainSetup(), draws)
		if got := impl.TellScript(sc); got != modelTell(sc) {
			t.Errorf("%d draws are told as %.200q", len(draws), got)
		}
	}
	sc := scriptOf(plainSetup(), nil, slices.Repeat([]impl.Step{stOpen(1)}, 4096)...)
	if got := impl.TellScript(sc); got != modelTell(sc) {
		t.Errorf("%d steps are told as %.200q", len(sc.Steps), got)
	}
}

// A text that is no word can't be told where it must be; where it is not told it does not matter.
func TestTellNoWords(t *testing.T) {
	for _, bad := range []string{"", " ", "a b", "a ", " a", "a\n", "\n", "\t", "a\x7f", "\x80", "a\xff", "\x00", "\x1fa", "ä"} {
		asks := []impl.Cmd{putOf(0, 0, "k", bad), casOf(0, 0, "k", bad, "v"), casOf(0, 0, "k", "o", bad)}
		if bad != "" {
			asks = append(asks, getOf(0, 0, bad), putOf(0, 0, bad, "v"), delOf(0, 0, bad), casOf(0, 0, bad, "o", "v"))
		}
		for _, c := range asks {
			sc := scriptOf(plainSetup(), nil, stGet(1, "k"), stAsk(1, c), stCalm(1))
			if got := impl.TellScript(sc); got != "" {
				t.Errorf("%+v is told as %q", c, got)
			}
			if r := impl.RunCluster(sc); r.Code != 0 {
				t.Errorf("%+v: the run has code %d, but the script is well-formed", c, r.Code)
			}
		}
	}
	for _, good := range []string{"!", "~", "=", "a=b", "get", "0", "\"", letters(64)} {
		for _, c := range []impl.Cmd{getOf(0, 0, good), putOf(0, 0, good, good), delOf(0, 0, good), casOf(0, 0, good, good, good)} {
			sc := scriptOf(plainSetup(), nil, stAsk(1, c))
			if got := impl.TellScript(sc); got != modelTell(sc) || got == "" {
				t.Errorf("%+v is told as %q", c, got)
			}
		}
	}
}

func TestTellLongTexts(t *testing.T) {
	for _, bytes := range []int{65535, 65536, 65537, 65538} {
		var sc impl.Script
		// one step less, and its text put back, so that a text that is too long is read too
		text := longText(bytes)
		cut := strings.LastIndexByte(text[:len(text)-1], '\n') + 1
		sc = impl.ParseScript(text[:cut]).Script
		words := strings.Fields(text[cut:])
		sc.Steps = append(sc.Steps, stPut(1, words[3], words[4]))
		if modelTell(sc) != text {
			t.Fatalf("the test's script of %d bytes is another", bytes)
		}
		want := text
		if bytes > 65536 {
			want = ""
		}
		if got := impl.TellScript(sc); got != want {
			t.Errorf("%d bytes: told as %d bytes", bytes, len(got))
		}
	}
	sc := scriptOf(plainSetup(), nil, slices.Repeat([]impl.Step{stAsk(1, casOf(0, 0, letters(64), letters(64), letters(64)))}, 4096)...)
	if got := impl.TellScript(sc); got != "" || impl.RunCluster(sc).Code != 0 {
		t.Errorf("a script with a text that is far too long: told as %d bytes", len(got))
	}
}
