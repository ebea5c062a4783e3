package tests

import (
	"math/rand"
	"strings"
	"testing"

	"loop.example/s01586/impl"
)

func wantText(t *testing.T, what, text, want string) {
	t.Helper()
	if got := impl.RunText(text); got != want {
		t.Errorf("%s:\n%s, not\n%s", what, got, want)
	}
}

func TestRunTextFaults(t *testing.T) {
	for text, want := range map[string]string{
		strings.Repeat("\n", 65537):         "fault 1 0\n",
		"":                                  "fault 2 0\n",
		headText + "calm 1":                 "fault 2 0\n",
		headText + "calm  1\n":              "fault 3 3\n",
		headText + "calm 1\n\n":             "fault 3 4\n",
		"draws\n":                           "fault 4 1\n",
		headText + "calm 1\ncalm 1\nwall\n": "fault 5 5\n",
		headText + "calm x\n":               "fault 6 3\n",
		"cluster 3 2 4 2 5 1000\ndraws 9999999999\n": "fault 7 2\n",
		"cluster 3 2 4 2 5 1000\n":                   "fault 8 1\n",
	} {
		wantText(t, "a fault", text, want)
	}
	wantText(t, "a fault far down", headText+strings.Repeat("open 1\n", 4096)+"open 1\n", "fault 5 4099\n")
}

// Each kind of line, by hand.
func TestRunTextLines(t *testing.T) {
	wantText(t, "no steps", headText,
		"run 0 0 0 3 0 0 0\nserver 1 1 0 0 0 0 0 0 0 0\nserver 2 1 0 0 0 0 0 0 0 0\nserver 3 1 0 0 0 0 0 0 0 0\nclient 1 0 0 1 0\nclient 2 0 0 2 0\n")
	wantText(t, "asked and not replied", headText+"ask 2 cas =k \"o ~\npoke 2\nask 1 del x=y\n",
		"run 0 3 3 3 0 0 2\nasked 2 1 4 ==k =~ =\"o\nasked 1 1 3 =x=y = =\n"+
			"server 1 1 0 0 0 0 0 0 0 0\nserver 2 1 0 0 0 0 0 0 0 0\nserver 3 1 0 0 0 0 0 0 0 0\nclient 1 1 1 1 0\nclient 2 1 1 2 1\n")
	script := "cluster 3 2 4 2 5 1000\ndraws 0 3 3\ntick 1 4\nflow 100\nask 1 put a= =b\nflow 100\nask 1 get a=\nflow 100\nask 1 get b\nflow 100\ncrash 3\ntear 2 3\nask 1 put c d\nflow 100\nask 2 get a\nspoil 0 0 0\n"
	wantText(t, "much", script,
		"run 0 50 14 16 0 0 0\n"+
			"asked 1 1 2 =a= ==b =\nreplied 1 1 1 =\nasked 1 2 1 =a= = =\nreplied 1 2 1 ==b\nasked 1 3 1 =b = =\nreplied 1 3 2 =\nasked 1 4 2 =c =d =\nasked 2 1 1 =a = =\n"+
			"fact 1 1 1 1 0 0\nfact 2 1 1 1 1 1\nfact 3 1 1 1 1 2\nfact 4 1 1 1 1 3\nlead 1 1 1\n"+
			"server 1 1 3 1 1 1 4 4 5 105\npair =a= ==b\nsession 1 3 2 =\n"+
			"server 2 0 0 1 1 0 0 0 4 89\nserver 3 0 0 1 1 0 0 0 4 86\n"+
			"client 1 4 1 1 0\nclient 2 1 1 2 0\n")
}

// A run that the fuel ends is told like any other.
func TestRunTextOutOfFuel(t *testing.T) {
	text := headText + "crash 1\ncrash 2\ncrash 3\n" + strings.Repeat("tick 1 10000\n", 6)
	wantText(t, "out of fuel", text,
		"run 2 60000 8 3 0 0 0\nserver 1 0 0 0 0 0 0 0 0 0\nserver 2 0 0 0 0 0 0 0 0 0\nserver 3 0 0 0 0 0 0 0 0 0\nclient 1 0 0 1 0\nclient 2 0 0 2 0\n")
}

// Pairs and sessions stand in their order, each behind its server.
func TestRunTextManyPairs(t *testing.T) {
	var text strings.Builder
	text.WriteString("cluster 3 8 4 2 5 100000\ndraws 0 3 3\ntick 1 4\nflow 100\n")
	for i := range 24 {
		text.WriteString("ask " + string(rune('8'-i%8)) + " put " + letters(1+i*7%24) + " v\n")
		if i%8 == 7 {
			text.WriteString("flow 1000\n")
		}
	}
	text.WriteString("tick 1 2\nflow 1000\n")
	got := impl.RunText(text.String())
	if want := modelText(impl.RunCluster(impl.ParseScript(text.String()).Script)); got != want {
		t.Errorf("%s, not %s", got, want)
	}
	if strings.Count(got, "pair =k") != 3*24 || strings.Count(got, "session ") != 3*8 || strings.Index(got, "pair =k =v\npair =kk =v\npair =kkk =v\n") < 0 {
		t.Errorf("%s", got)
	}
}

// modelParse is the document's 7.2 told once more: the code and the line.
func modelParse(text string) (int, int) {
	if len(text) > 65536 {
		return 1, 0
	}
	if text == "" || text[len(text)-1] != '\n' {
		return 2, 0
	}
	lines := strings.Split(text, "\n")
	lines = lines[:len(lines)-1]
	var setup impl.Setup
	for i, line := range lines {
		words := strings.Split(line, " ")
		for _, w := range words {
			if w == "" || strings.IndexFunc(w, func(r rune) bool { return r < 33 || r > 126 }) >= 0 {
				return 3, i + 1
			}
		}
		if code := modelWords(i, words, &setup); code != 0 {
			return code, i + 1
		}
	}
	if len(lines) < 2 {
		return 8, len(lines)
	}
	return 0, 0
}

func modelWords(at int, words []string, su *impl.Setup) int {
	texts := []string{}
	ranges, known := stepRangesOf(*su)[words[0]]
	numbers := words[1:]
	switch {
	case at == 0:
		known, ranges = words[0] == "cluster", make([][2]int, 6)
	case at == 1:
		known, ranges = words[0] == "draws", make([][2]int, min(len(numbers), 4096))
		for i := range ranges {
			ranges[i] = [2]int{0, 1 << 30}
		}
	case words[0] == "ask":
		known, ranges = true, [][2]int{{1, su.Clients}}
		count, op := map[string]int{"get": 4, "put": 5, "del": 4, "cas": 6}[append(words, "", "", "")[2]]
		if !op || len(words) != count {
			return 5
		}
		numbers, texts = words[1:2], words[3:]
	}
	if !known {
		return 4
	}
	if len(numbers) != len(ranges) || at >= 2+4096 {
		return 5
	}
	var values []int
	for _, w := range numbers {
		n := 0
		for _, r := range w {
			if r < '0' || r > '9' {
				return 6
			}
			n = min(n*10+int(r-'0'), 1<<50)
		}
		if len(w) > 10 || len(w) > 1 && w[0] == '0' {
			return 6
		}
		values = append(values, n)
	}
	if at == 0 {
		*su = impl.Setup{Servers: values[0], Clients: values[1], Elect: values[2], Beat: values[3], Retry: values[4], Disk: values[5]}
		return min(7, 7*impl.SetupFault(*su))
	}
	for i, n := range values {
		if n < ranges[i][0] || n > ranges[i][1] {
			return 7
		}
	}
	for _, text := range texts {
		if len(text) > 64 {
			return 7
		}
	}
	return 0
}

// spoilText changes the text in one or a few places, mostly so that it is still nearly a script.
func spoilText(random *rand.Rand, text string) string {
	parts := []string{" ", "\n", "0", "1", "9", "x", "ask", "get", "calm", "tick 1 1\n", "\x7f", "\t", "99999999999", letters(64), letters(65), "draws", " 10000", " 10001"}
	for range 1 + random.Intn(3) {
		i, j := random.Intn(len(text)+1), random.Intn(8)
		j = min(len(text), i+j)
		if oneIn(random, 2) {
			j = i
		}
		text = text[:i] + parts[random.Intn(len(parts))] + text[j:]
	}
	return text
}

func TestParseSpoiltTexts(t *testing.T) {
	random := rand.New(rand.NewSource(723))
	codes := map[int]int{}
	for range 20000 {
		sc := drawTold(random)
		sc.Steps = sc.Steps[:min(len(sc.Steps), 6)]
		sc.Draws = sc.Draws[:min(len(sc.Draws), 3)]
		text := spoilText(random, modelTell(sc))
		got := impl.ParseScript(text)
		code, line := modelParse(text)
		if got.Code != code || got.Line != line {
			t.Fatalf("code %d in line %d, not %d in %d: %q", got.Code, got.Line, code, line, text)
		}
		if code == 0 && (impl.TellScript(got.Script) != text || impl.RunCluster(scriptOf(got.Script.Setup, nil)).Code != 0) {
			t.Fatalf("%q is read as %s", text, told(got.Script))
		}
		if code != 0 && !sameScript(got.Script, impl.Script{}) {
			t.Fatalf("a fault beside %s", told(got.Script))
		}
		codes[code]++
	}
	for _, code := range []int{0, 2, 3, 4, 5, 6, 7} {
		if codes[code] < 50 {
			t.Errorf("code %d only %d times", code, codes[code])
		}
	}
}
