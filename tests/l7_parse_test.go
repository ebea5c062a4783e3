package tests

import (
	"fmt"
	"strconv"
	"strings"
	"testing"

	"loop.example/s01586/impl"
)

// wantParse checks code and line, and that a fault leaves no script.
func wantParse(t *testing.T, what, text string, code, line int) impl.Script {
	t.Helper()
	got := impl.ParseScript(text)
	if got.Code != code || got.Line != line {
		t.Errorf("%s: code %d in line %d, not %d in %d: %.200q", what, got.Code, got.Line, code, line, text)
	}
	if got.Code != 0 && !sameScript(got.Script, impl.Script{}) {
		t.Errorf("%s: a fault beside the script %s", what, told(got.Script))
	}
	return got.Script
}

// wantLine checks the fault of one line behind headText.
func wantLine(t *testing.T, line string, code int) {
	t.Helper()
	at := 3
	if code == 0 {
		at = 0
	}
	wantParse(t, "the step", headText+line+"\n", code, at)
	if code != 0 {
		at = 5
	}
	wantParse(t, "the third step", headText+"calm 1\nopen 1\n"+line+"\nwall 2\n", code, at)
}

func TestParseTexts(t *testing.T) {
	wantParse(t, "no text", "", 2, 0)
	wantParse(t, "no line feed", headText+"calm 1", 2, 0)
	wantParse(t, "no line feed in one line", "cluster 3 2 4 2 5 1000", 2, 0)
	wantParse(t, "a carriage return at the end", headText+"calm 1\r", 2, 0)
	wantParse(t, "only a line feed", "\n", 3, 1)
	wantParse(t, "only line feeds", "\n\n\n", 3, 1)
	wantParse(t, "one line", "cluster 3 2 4 2 5 1000\n", 8, 1)
	wantParse(t, "two lines", headText, 0, 0)
	wantParse(t, "no draws", "cluster 3 2 4 2 5 1000\ndraws\n", 0, 0)
	wantParse(t, "an empty second line", "cluster 3 2 4 2 5 1000\n\n", 3, 2)
	wantParse(t, "an empty third line", headText+"\n", 3, 3)
	wantParse(t, "an empty line between", headText+"calm 1\n\ncalm 1\n", 3, 4)
}

// longText has exactly this many bytes, at least 1000.
func longText(bytes int) string {
	text := headText
	for bytes-len(text) >= 500 {
		text += "ask 1 cas " + letters(64) + " " + letters(64) + " " + letters(64) + "\n"
	}
	for bytes-len(text) >= 100 {
		text += "ask 2 put " + letters(20) + " " + letters(20) + "\n"
	}
	rest := bytes - len(text) - len("ask 1 put  \n")
	return text + "ask 1 put " + letters(rest/2) + " " + letters(rest-rest/2) + "\n"
}

func TestParseLongTexts(t *testing.T) {
	for _, c := range []struct{ bytes, code int }{{65535, 0}, {65536, 0}, {65537, 1}, {70000, 1}} {
		text := longText(c.bytes)
		if len(text) != c.bytes {
			t.Fatalf("the test's text has %d bytes, not %d", len(text), c.bytes)
		}
		sc := wantParse(t, "a long text", text, c.code, 0)
		if c.code == 0 && modelTell(sc) != text {
			t.Errorf("%d bytes are read as another script", c.bytes)
		}
	}
	wantParse(t, "long and without a line feed", strings.Repeat("x", 65537), 1, 0)
	wantParse(t, "full and without a line feed", strings.Repeat("x", 65536), 2, 0)
	wantParse(t, "full and of one word", strings.Repeat("x", 65535)+"\n", 4, 1)
	wantParse(t, "long and empty", strings.Repeat("\n", 65537), 1, 0)
}

// Spaces and bytes, in each of the three kinds of line.
func TestParseWordsAndSpaces(t *testing.T) {
	lines := []string{"cluster 3 2 4 2 5 1000", "draws 0 3", "tick 1 2", "ask 1 put k v"}
	text := func(at int, line string) string {
		all := append([]string(nil), lines...)
		all[at] = line
		return strings.Join(all, "\n") + "\n"
	}
	for at, line := range lines {
		wantParse(t, "as it is", text(at, line), 0, 0)
		wantParse(t, "a space ahead", text(at, " "+line), 3, at+1)
		wantParse(t, "a space behind", text(at, line+" "), 3, at+1)
		wantParse(t, "two spaces", text(at, strings.Replace(line, " ", "  ", 1)), 3, at+1)
		wantParse(t, "only a space", text(at, " "), 3, at+1)
		wantParse(t, "a tab", text(at, strings.Replace(line, " ", "\t", 1)), 3, at+1)
		for _, b := range []byte{0, 9, 11, 13, 31, 127, 128, 200, 255} {
			wantParse(t, "a byte in a word", text(at, line+string([]byte{b})), 3, at+1)
			wantParse(t, "a byte as a word", text(at, line+" "+string([]byte{b})), 3, at+1)
			wantParse(t, "a byte ahead", text(at, string([]byte{b})+line), 3, at+1)
		}
	}
	for b := 33; b <= 126; b++ {
		sc := wantParse(t, "a byte of a word", headText+"ask 1 put "+string([]byte{byte(b)})+" v"+string([]byte{byte(b)})+"\n", 0, 0)
		if len(sc.Steps) != 1 || sc.Steps[0] != stPut(1, string([]byte{byte(b)}), "v"+string([]byte{byte(b)})) {
			t.Errorf("byte %d: %s", b, told(sc.Steps))
		}
	}
}

func TestParseFirstWords(t *testing.T) {
	for _, first := range []string{"draws 0 3", "Cluster 3 2 4 2 5 1000", "clusters 3 2 4 2 5 1000", "calm 1", "cluste 3 2 4 2 5 1000", "3"} {
		wantParse(t, "the first line", first+"\ndraws\n", 4, 1)
	}
	for _, second := range []string{"cluster 3 2 4 2 5 1000", "Draws", "draw 1", "calm 1", "0"} {
		wantParse(t, "the second line", "cluster 3 2 4 2 5 1000\n"+second+"\n", 4, 2)
	}
	for _, word := range []string{"cluster", "draws", "Tick", "ticks", "tic", "get", "put", "1", "=", "server", "TICK"} {
		for _, rest := range []string{"", " 1", " 1 1", " 1 1 1", " 3 2 4 2 5 1000"} {
			wantLine(t, word+rest, 4)
		}
	}
}

// stepWords: the words of the steps and how many numbers stand behind each.
var stepWords = map[string]int{
	"tick": 2, "deliver": 1, "repeat": 1, "drop": 1, "spoil": 3, "crash": 1, "tear": 2, "start": 1, "wall": 1, "open": 1, "poke": 1, "calm": 1, "flow": 1,
}

func TestParseCounts(t *testing.T) {
	for word, n := range stepWords {
		for count := range 6 {
			code := 0
			if count != n {
				code = 5
			}
			wantLine(t, word+strings.Repeat(" 1", count), code)
		}
	}
	for count := range 9 {
		line := "cluster" + strings.Join([]string{"", "3", "2", "4", "2", "5", "1000", "1", "1"}[:count+1], " ")
		if count == 0 {
			line = "cluster"
		}
		code, at := 5, 1
		if count == 6 {
			code, at = 0, 0
		}
		wantParse(t, "setup", line+"\ndraws\n", code, at)
	}
}

func TestParseAsks(t *testing.T) {
	for _, line := range []string{"ask", "ask 1", "ask x", "ask get a", "ask 1 rot", "ask 1 rot a", "ask 1 Get a", "ask 1 gets a", "ask 1 ge a", "ask 1 1 a", "ask x rot a", "ask 9 rot a b c", "ask 1 ask a"} {
		wantLine(t, line, 5)
	}
	for op, n := range map[string]int{"get": 1, "put": 2, "del": 1, "cas": 3} {
		for count := range 6 {
			code := 0
			if count != n {
				code = 5
			}
			wantLine(t, "ask 1 "+op+strings.Repeat(" a", count), code)
		}
		texts := strings.Repeat(" a", n)
		wantLine(t, "ask 2 "+op+texts, 0)
		wantLine(t, "ask x "+op+texts, 6)
		wantLine(t, "ask x "+op+texts+" a", 5)
		wantLine(t, "ask 0 "+op+texts, 7)
		wantLine(t, "ask 3 "+op+texts, 7)
		wantLine(t, "ask 1 "+op+" "+letters(64)+strings.Repeat(" a", n-1), 0)
		for i := range n {
			parts := strings.Split(strings.TrimSpace(texts), " ")
			parts[i] = letters(64)
			wantLine(t, "ask 1 "+op+" "+strings.Join(parts, " "), 0)
			parts[i] = letters(65)
			wantLine(t, "ask 1 "+op+" "+strings.Join(parts, " "), 7)
			wantLine(t, "ask y "+op+" "+strings.Join(parts, " "), 6)
		}
	}
	sc := wantParse(t, "each op", headText+"ask 1 get a\nask 2 put b c\nask 1 del d\nask 2 cas e f g\nask 1 put get put\n", 0, 0)
	want := scriptOf(sc.Setup, sc.Draws, stGet(1, "a"), stPut(2, "b", "c"), stAsk(1, delOf(0, 0, "d")), stAsk(2, casOf(0, 0, "e", "f", "g")), stPut(1, "get", "put"))
	if !sameScript(sc, want) {
		t.Errorf("%s", told(sc))
	}
}

func TestParseNumbers(t *testing.T) {
	for _, word := range []string{"x", "00", "01", "007", "+1", "-1", "1.0", "1e1", "0x1", "1_0", "1a", "a1", "12345678901", "00000000001", "99999999999999999999", "=1", "1,"} {
		wantLine(t, "calm "+word, 6)
		wantLine(t, "tick 1 "+word, 6)
		wantLine(t, "tick "+word+" 1", 6)
		wantLine(t, "spoil 0 0 "+word, 6)
		wantLine(t, "tick 9 "+word, 6)
		wantParse(t, "draws", "cluster 3 2 4 2 5 1000\ndraws 1 "+word+" 1\n", 6, 2)
		for i := range 6 {
			words := []string{"3", "2", "4", "2", "5", "1000"}
			words[i] = word
			wantParse(t, "setup", "cluster "+strings.Join(words, " ")+"\ndraws\n", 6, 1)
		}
	}
	// ten digits are a number, but out of every range but the draws'
	for _, word := range []string{"1000000000", "9999999999", "4294967297", "2147483648"} {
		wantLine(t, "calm "+word, 7)
		wantParse(t, "setup", "cluster "+word+" 2 4 2 5 1000\ndraws\n", 7, 1)
	}
	sc := wantParse(t, "draws", "cluster 3 2 4 2 5 1000\ndraws 0 1 9 10 1000000000 1073741824\n", 0, 0)
	if fmt.Sprint(sc.Draws) != "[0 1 9 10 1000000000 1073741824]" {
		t.Errorf("%v", sc.Draws)
	}
	for _, word := range []string{"1073741825", "9999999999", "4294967296"} {
		wantParse(t, "draws", "cluster 3 2 4 2 5 1000\ndraws 0 "+word+"\n", 7, 2)
	}
}

// stepRangesOf: the ends of the range of each number of each step but an ask.
func stepRangesOf(su impl.Setup) map[string][][2]int {
	server, client, times, pick := [2]int{1, su.Servers}, [2]int{1, su.Clients}, [2]int{1, 10000}, [2]int{0, 4095}
	return map[string][][2]int{
		"tick": {server, times}, "deliver": {pick}, "repeat": {pick}, "drop": {pick}, "spoil": {pick, {0, 16384}, {0, 254}}, "crash": {server},
		"tear": {server, {0, 1048576}}, "start": {server}, "wall": {server}, "open": {server}, "poke": {client}, "calm": {times}, "flow": {times},
	}
}

func TestParseRanges(t *testing.T) {
	head := "cluster 5 4 4 2 5 1000\ndraws\n"
	for word, ranges := range stepRangesOf(impl.Setup{Servers: 5, Clients: 4}) {
		for i, ends := range ranges {
			for _, n := range []int{ends[0], ends[1], ends[0] - 1, ends[1] + 1, (ends[0] + ends[1]) / 2} {
				if n < 0 {
					continue
				}
				line := word
				for j := range ranges {
					x := 1
					if j == i {
						x = n
					}
					line += " " + strconv.Itoa(x)
				}
				code, at := 0, 0
				if n < ends[0] || n > ends[1] {
					code, at = 7, 3
				}
				wantParse(t, line, head+line+"\n", code, at)
			}
		}
	}
	for i, ends := range [][2]int{{3, 7}, {1, 8}, {2, 1000}, {1, 4}, {1, 1000}, {0, 1048576}} {
		for _, n := range []int{ends[0], ends[1], ends[0] - 1, ends[1] + 1} {
			words := []string{"3", "2", "4", "1", "5", "1000"}
			words[i] = strconv.Itoa(n)
			if n < 0 {
				continue
			}
			code, at := 0, 0
			if n < ends[0] || n > ends[1] {
				code, at = 7, 1
			}
			wantParse(t, "setup", "cluster "+strings.Join(words, " ")+"\ndraws\n", code, at)
		}
	}
	wantParse(t, "four servers", "cluster 4 2 4 1 5 1000\ndraws\n", 7, 1)
	wantParse(t, "the beat above the election base", "cluster 3 2 4 5 5 1000\ndraws\n", 7, 1)
}

func TestParseManyDraws(t *testing.T) {
	first := "cluster 3 2 4 2 5 1000\n"
	sc := wantParse(t, "as many draws as may be", first+"draws"+strings.Repeat(" 7", 4096)+"\n", 0, 0)
	if len(sc.Draws) != 4096 || sc.Draws[4095] != 7 {
		t.Errorf("%d draws", len(sc.Draws))
	}
	wantParse(t, "one more draw", first+"draws"+strings.Repeat(" 7", 4097)+"\n", 5, 2)
	wantParse(t, "one more, which is no number", first+"draws"+strings.Repeat(" 7", 4096)+" x\n", 5, 2)
	wantParse(t, "the last is no number", first+"draws"+strings.Repeat(" 7", 4095)+" x\n", 6, 2)
	wantParse(t, "the last is out of range", first+"draws"+strings.Repeat(" 7", 4095)+" 1073741825\n", 7, 2)
}

func TestParseManySteps(t *testing.T) {
	full := headText + strings.Repeat("open 1\n", 4096)
	sc := wantParse(t, "as many steps as may be", full, 0, 0)
	if len(sc.Steps) != 4096 || sc.Steps[4095] != stOpen(1) {
		t.Errorf("%d steps", len(sc.Steps))
	}
	for line, code := range map[string]int{
		"open 1": 5, "open 9": 5, "open x": 5, "open": 5, "ask 1 get a": 5, "ask 1": 5, "shut 1": 4, "open  1": 3, "": 3, "calm 0": 5,
	} {
		wantParse(t, "one more step", full+line+"\n", code, 4099)
	}
	wantParse(t, "one more, and a fault ahead", headText+"open 9\n"+strings.Repeat("open 1\n", 4096), 7, 3)
}

// Where there are several faults the first line counts, and in a line the order told.
func TestParseFirstFault(t *testing.T) {
	for line, code := range map[string]int{
		"Calm  1": 3, "calm 1 \x7f": 3, "Calm 1 2": 4, "Calm x": 4, "calm x y": 5, "tick 9": 5, "calm 0 0": 5, "tick x 0": 6, "tick 0 x": 6, "spoil 9999 x 9999": 6,
		"tick 4 1": 7, "tick 4 0": 7, "ask 0 get": 5, "ask x get a b": 5, "ask 9 get " + letters(65): 7,
	} {
		wantLine(t, line, code)
		for _, later := range []string{"", "Calm", "calm", "calm x", "calm 0"} {
			wantParse(t, "a fault behind", headText+line+"\n"+later+"\n", code, 3)
		}
		wantParse(t, "a fault in the first line", "cluster 3 2 4 2 5 x\ndraws\n"+line+"\n", 6, 1)
		wantParse(t, "a range in the first line", "cluster 3 2 4 2 5 1048577\n\n"+line+"\n", 7, 1)
		wantParse(t, "a fault in the second line", "cluster 3 2 4 2 5 1\ndraws 1073741825\n"+line+"\n", 7, 2)
		wantParse(t, "a word in the second line", "cluster 3 2 4 2 5 1\ncalm x y\n"+line+"\n", 4, 2)
		wantParse(t, "no line feed", headText+line, 2, 0)
	}
	for line, code := range map[string]int{"cluster": 5, "clust": 4, "cluster 3 2 4 2 5 x": 6, "cluster 3 2 4 2 5 1048577": 7, "cluster  3": 3} {
		wantParse(t, "only a faulty line", line+"\n", code, 1)
	}
}

func TestParseEachStep(t *testing.T) {
	su := impl.Setup{Servers: 3, Clients: 2, Elect: 4, Beat: 2, Retry: 5, Disk: 1000}
	want := scriptOf(su, []int{0, 3}, allSteps()...)
	text := headText + "tick 1 9\ndeliver 1\nrepeat 2\ndrop 3\nspoil 4 5 6\ncrash 1\ntear 2 7\nstart 1\nwall 3\nopen 3\n" +
		"ask 1 get a\nask 2 put b c\nask 1 del d\nask 2 cas e f g\npoke 2\ncalm 3\nflow 8\n"
	if got := wantParse(t, "each step", text, 0, 0); !sameScript(got, want) {
		t.Errorf("%s, not %s", told(got), told(want))
	}
	if got := impl.TellScript(want); got != text {
		t.Errorf("told as %s", got)
	}
}
