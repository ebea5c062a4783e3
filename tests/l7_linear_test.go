package tests

import (
	"math/rand"
	"slices"
	"testing"

	"loop.example/s01586/impl"
)

func asked(c impl.Cmd) impl.Event {
	return impl.Event{Kind: impl.EventAsk, Cmd: c}
}

func replied(c impl.Cmd, code int, val string) impl.Event {
	return impl.Event{Kind: impl.EventReply, Cmd: c, Code: code, Val: val}
}

func wantLinear(t *testing.T, what string, events []impl.Event, order []impl.Cmd, code, at int) {
	t.Helper()
	want := impl.LinearAnswer{Code: code, At: at}
	if got := impl.Linear(events, order); got != want {
		t.Errorf("%s: %+v, not %+v", what, got, want)
	}
	if got := modelLinear(events, order); got != want {
		t.Errorf("%s: the model says %+v, not %+v", what, got, want)
	}
}

// modelLinear is the document's 7.6 told once more, rule by rule.
func modelLinear(events []impl.Event, order []impl.Cmd) impl.LinearAnswer {
	if len(events) > 4096 || len(order) > 4096 {
		return impl.LinearAnswer{Code: 9}
	}
	for i := range events {
		if !modelTurn(events[:i], events[i]) {
			return impl.LinearAnswer{Code: 1, At: i}
		}
	}
	find := func(kind int, c impl.Cmd) int {
		return slices.IndexFunc(events, func(ev impl.Event) bool { return ev.Kind == kind && ev.Cmd == c })
	}
	for i, c := range order {
		if find(impl.EventAsk, c) < 0 || slices.Index(order, c) < i {
			return impl.LinearAnswer{Code: 2, At: i}
		}
	}
	for i, ev := range events {
		if ev.Kind == impl.EventReply && !slices.Contains(order, ev.Cmd) {
			return impl.LinearAnswer{Code: 3, At: i}
		}
	}
	var table impl.Table
	for i, c := range order {
		a := impl.ApplyCmd(table, c)
		table = a.Table
		if at := find(impl.EventReply, c); at >= 0 && (events[at].Code != a.Result || events[at].Val != a.Val) {
			return impl.LinearAnswer{Code: 4, At: i}
		}
	}
	for i, c := range order {
		for _, d := range order[i+1:] {
			if at := find(impl.EventReply, d); at >= 0 && at < find(impl.EventAsk, c) {
				return impl.LinearAnswer{Code: 5, At: i}
			}
		}
	}
	return impl.LinearAnswer{}
}

// modelTurn tells whether the event may come behind those ahead of it.
func modelTurn(ahead []impl.Event, ev impl.Event) bool {
	if impl.CmdFault(ev.Cmd) != 0 || ev.Cmd.Op == impl.OpNone {
		return false
	}
	// the client's events take turns, so the last one tells whether a command is open
	last := impl.Event{Kind: impl.EventReply}
	for _, x := range ahead {
		if x.Cmd.Client == ev.Cmd.Client {
			last = x
		}
	}
	switch ev.Kind {
	case impl.EventAsk:
		return ev.Code == 0 && ev.Val == "" && last.Kind == impl.EventReply && ev.Cmd.Seq == last.Cmd.Seq+1
	case impl.EventReply:
		return ev.Code >= 1 && ev.Code <= 4 && len(ev.Val) <= 64 && last.Kind == impl.EventAsk && last.Cmd == ev.Cmd
	}
	return false
}

// history: client 1 puts, client 2 puts meanwhile and has no reply; client 1 gets, client 3 deletes nothing.
func history() ([]impl.Event, []impl.Cmd) {
	a, b, g, d := putOf(1, 1, "k", "1"), putOf(2, 1, "k", "2"), getOf(1, 2, "k"), delOf(3, 1, "x")
	events := []impl.Event{asked(a), asked(b), replied(a, 1, ""), asked(g), asked(d), replied(g, 1, "1"), replied(d, 2, "")}
	return events, []impl.Cmd{a, g, d}
}

func TestLinearOrders(t *testing.T) {
	events, order := history()
	a, g, d := order[0], order[1], order[2]
	b := events[1].Cmd
	for _, c := range []struct {
		what     string
		order    []impl.Cmd
		code, at int
	}{
		{"without the open one", []impl.Cmd{a, g, d}, 0, 0},
		{"the open one at the end", []impl.Cmd{a, g, d, b}, 0, 0},
		{"the open one ahead", []impl.Cmd{b, a, g, d}, 0, 0},
		{"the open one behind the get", []impl.Cmd{a, g, b, d}, 0, 0},
		{"the open one between", []impl.Cmd{a, b, g, d}, 4, 2},
		{"those that overlap the other way round", []impl.Cmd{a, d, g}, 0, 0},
		{"the put behind the get", []impl.Cmd{g, a, d}, 4, 0},
		{"the delete ahead of the put", []impl.Cmd{d, a, g}, 5, 0},
		{"the delete ahead of the put, and the open one ahead", []impl.Cmd{b, d, a, g}, 5, 1},
		{"none", nil, 3, 2},
		{"without the get", []impl.Cmd{a, d}, 3, 5},
		{"without the delete", []impl.Cmd{a, g}, 3, 6},
		{"one twice", []impl.Cmd{a, g, a, d}, 2, 2},
		{"one twice and one missing", []impl.Cmd{a, a}, 2, 1},
		{"one that was never asked", []impl.Cmd{a, g, d, putOf(2, 1, "k", "3")}, 2, 3},
		{"one with another number", []impl.Cmd{putOf(1, 3, "k", "1")}, 2, 0},
		{"the zero command", []impl.Cmd{{}, a, g, d}, 2, 0},
		{"one that is ill-formed", []impl.Cmd{a, {Op: 9}}, 2, 1},
	} {
		wantLinear(t, c.what, events, c.order, c.code, c.at)
	}
	wantLinear(t, "nothing", nil, nil, 0, 0)
	wantLinear(t, "empty lists", []impl.Event{}, []impl.Cmd{}, 0, 0)
	wantLinear(t, "asked, never replied, not in order", events[:2], nil, 0, 0)
	wantLinear(t, "asked, never replied, in order", events[:2], []impl.Cmd{b, a}, 0, 0)
	wantLinear(t, "an order of what never was", nil, []impl.Cmd{a}, 2, 0)
}

// Each way in which an event can be out of form or turn; the events ahead of it are not.
func TestLinearEvents(t *testing.T) {
	a := casOf(1, 1, "k", "o", "1")
	long := letters(65)
	other := func(change func(c *impl.Cmd)) impl.Cmd {
		c := a
		change(&c)
		return c
	}
	for _, c := range []struct {
		what  string
		ahead []impl.Event
		bad   impl.Event
	}{
		{"no kind", nil, impl.Event{Cmd: a}},
		{"another kind", nil, impl.Event{Kind: 3, Cmd: a}},
		{"a kind below", nil, impl.Event{Kind: -1, Cmd: a}},
		{"no command", nil, asked(impl.Cmd{})},
		{"an ill-formed command", nil, asked(other(func(c *impl.Cmd) { c.Op = 5 }))},
		{"client 0", nil, asked(other(func(c *impl.Cmd) { c.Client = 0 }))},
		{"client 9", nil, asked(other(func(c *impl.Cmd) { c.Client = 9 }))},
		{"no key", nil, asked(other(func(c *impl.Cmd) { c.Key = "" }))},
		{"a long key", nil, asked(other(func(c *impl.Cmd) { c.Key = long }))},
		{"a blank command with a number", nil, asked(impl.Cmd{Client: 1, Seq: 1})},
		{"an ask with a code", nil, impl.Event{Kind: 1, Cmd: a, Code: 1}},
		{"an ask with a value", nil, impl.Event{Kind: 1, Cmd: a, Val: "x"}},
		{"number 0", nil, asked(other(func(c *impl.Cmd) { c.Seq = 0 }))},
		{"number 2 at first", nil, asked(other(func(c *impl.Cmd) { c.Seq = 2 }))},
		{"asked while open", []impl.Event{asked(a)}, asked(other(func(c *impl.Cmd) { c.Seq = 2 }))},
		{"asked twice", []impl.Event{asked(a)}, asked(a)},
		{"the same number again", []impl.Event{asked(a), replied(a, 2, "")}, asked(a)},
		{"the number after the next", []impl.Event{asked(a), replied(a, 2, "")}, asked(other(func(c *impl.Cmd) { c.Seq = 3 }))},
		{"a reply to nothing", nil, replied(a, 2, "")},
		{"a reply to another client", []impl.Event{asked(a)}, replied(other(func(c *impl.Cmd) { c.Client = 2 }), 2, "")},
		{"a reply to another number", []impl.Event{asked(a)}, replied(other(func(c *impl.Cmd) { c.Seq = 2 }), 2, "")},
		{"a reply to another op", []impl.Event{asked(a)}, replied(getOf(1, 1, "k"), 2, "")},
		{"a reply to another key", []impl.Event{asked(a)}, replied(other(func(c *impl.Cmd) { c.Key = "l" }), 2, "")},
		{"a reply to another value", []impl.Event{asked(a)}, replied(other(func(c *impl.Cmd) { c.Val = "2" }), 2, "")},
		{"a reply to another old value", []impl.Event{asked(a)}, replied(other(func(c *impl.Cmd) { c.Old = "p" }), 2, "")},
		{"a second reply", []impl.Event{asked(a), replied(a, 2, "")}, replied(a, 2, "")},
		{"code 0", []impl.Event{asked(a)}, replied(a, 0, "")},
		{"code 5", []impl.Event{asked(a)}, replied(a, 5, "")},
		{"code -1", []impl.Event{asked(a)}, replied(a, -1, "")},
		{"a long value", []impl.Event{asked(a)}, replied(a, 3, long)},
		{"a reply to no command", []impl.Event{asked(a)}, replied(impl.Cmd{}, 2, "")},
		{"a reply to an ill-formed command", []impl.Event{asked(a)}, replied(impl.Cmd{Client: 1, Seq: 1}, 2, "")},
	} {
		if got := impl.Linear(c.ahead, []impl.Cmd{a}); got.Code == 1 {
			t.Fatalf("%s: what stands ahead has %+v", c.what, got)
		}
		at := len(c.ahead)
		events := append(slices.Clone(c.ahead), c.bad)
		wantLinear(t, c.what, events, []impl.Cmd{a}, 1, at)
		wantLinear(t, c.what+", and others behind", append(events, asked(impl.Cmd{}), asked(a), replied(a, 9, long)), nil, 1, at)
		wantLinear(t, c.what+", and the order wrong too", events, []impl.Cmd{a, a, {}}, 1, at)
		b := putOf(2, 1, "x", "y")
		wantLinear(t, c.what+", and another client ahead", slices.Concat([]impl.Event{asked(b), replied(b, 1, "")}, events), nil, 1, 2+at)
	}
	// edges that are in form
	full := letters(64)
	wantLinear(t, "a value of MaxText bytes", []impl.Event{asked(a), replied(a, 3, full)}, []impl.Cmd{a}, 4, 0)
	wantLinear(t, "code 4", []impl.Event{asked(a), replied(a, 4, "")}, []impl.Cmd{a}, 4, 0)
	wantLinear(t, "missing", []impl.Event{asked(a), replied(a, 2, "")}, []impl.Cmd{a}, 0, 0)
	eighth := getOf(8, 1, full)
	wantLinear(t, "client 8", []impl.Event{asked(eighth), replied(eighth, 2, "")}, []impl.Cmd{eighth}, 0, 0)
}

// Where several faults are present, the first in the order 9, 1, 2, 3, 4, 5 is answered.
func TestLinearFirstFault(t *testing.T) {
	a, b, g := putOf(1, 1, "k", "1"), putOf(2, 1, "k", "2"), getOf(3, 1, "k")
	events := []impl.Event{asked(a), replied(a, 1, ""), asked(b), replied(b, 1, ""), asked(g), replied(g, 1, "1")}
	wantLinear(t, "4 and 5", events, []impl.Cmd{g, b, a}, 4, 0)
	wantLinear(t, "4, with 5 ahead of it", events, []impl.Cmd{b, a, g}, 5, 0)
	wantLinear(t, "4 alone", events, []impl.Cmd{a, b, g}, 4, 2)
	wantLinear(t, "3, 4 and 5", events, []impl.Cmd{g, b}, 3, 1)
	wantLinear(t, "2, 3, 4 and 5", events, []impl.Cmd{g, g}, 2, 1)
	wantLinear(t, "1, 2, 3, 4 and 5", append(slices.Clone(events), asked(a)), []impl.Cmd{g, g}, 1, 6)
	wantLinear(t, "9 and 1", slices.Repeat([]impl.Event{{}}, 4097), nil, 9, 0)
	wantLinear(t, "9 and 2", nil, slices.Repeat([]impl.Cmd{a}, 4097), 9, 0)
	wantLinear(t, "9 twice", slices.Repeat([]impl.Event{{}}, 5000), slices.Repeat([]impl.Cmd{a}, 5000), 9, 0)
	wantLinear(t, "1 among as many as may be", slices.Repeat([]impl.Event{{}}, 4096), nil, 1, 0)
	wantLinear(t, "2 among as many as may be", nil, slices.Repeat([]impl.Cmd{a}, 4096), 2, 0)
}

// The least index of a command that stands ahead of one that was replied before it was asked.
func TestLinearTooEarly(t *testing.T) {
	a, b, c, d := getOf(1, 1, "k"), getOf(2, 1, "k"), getOf(3, 1, "k"), getOf(4, 1, "k")
	// a is replied before b and c are asked, b before c; d is open all the time
	events := []impl.Event{asked(d), asked(a), replied(a, 2, ""), asked(b), replied(b, 2, ""), asked(c), replied(c, 2, "")}
	for _, x := range []struct {
		order    []impl.Cmd
		code, at int
	}{
		{[]impl.Cmd{a, b, c}, 0, 0}, {[]impl.Cmd{d, a, b, c}, 0, 0}, {[]impl.Cmd{a, b, c, d}, 0, 0}, {[]impl.Cmd{b, a, c}, 5, 0}, {[]impl.Cmd{a, c, b}, 5, 1}, {[]impl.Cmd{c, b, a}, 5, 0},
		{[]impl.Cmd{d, c, b, a}, 5, 1}, {[]impl.Cmd{d, a, c, b}, 5, 2}, {[]impl.Cmd{c, a, b}, 5, 0}, {[]impl.Cmd{b, c, a}, 5, 0}, {[]impl.Cmd{d, b, c, a}, 5, 1},
	} {
		wantLinear(t, "an order", events, x.order, x.code, x.at)
	}
	// one that is never replied, but was asked behind a reply
	events = []impl.Event{asked(a), replied(a, 2, ""), asked(b)}
	wantLinear(t, "the open one behind", events, []impl.Cmd{a, b}, 0, 0)
	wantLinear(t, "the open one ahead", events, []impl.Cmd{b, a}, 5, 0)
}

func TestLinearLimits(t *testing.T) {
	var events []impl.Event
	var order []impl.Cmd
	for i := range 2049 {
		c := putOf(1, i+1, "k", "v")
		order = append(order, c)
		events = append(events, asked(c), replied(c, 1, ""))
	}
	if got := impl.Linear(events[:4096], order[:2048]); got != (impl.LinearAnswer{}) {
		t.Errorf("as many as may be: %+v", got)
	}
	if got := impl.Linear(events[:4097], order); got != (impl.LinearAnswer{Code: 9}) {
		t.Errorf("one more: %+v", got)
	}
	if got := impl.Linear(events[:4095], order[:2047]); got != (impl.LinearAnswer{}) {
		t.Errorf("one less: %+v", got)
	}
	events[4095].Val = "w"
	if got := impl.Linear(events[:4096], order[:2048]); got != (impl.LinearAnswer{Code: 4, At: 2047}) {
		t.Errorf("the last one changed: %+v", got)
	}
}

// A full table: the put of one more key is refused by the table, and the history tells it.
func TestLinearFullTable(t *testing.T) {
	var events []impl.Event
	var order []impl.Cmd
	for i, p := range fullPairs(257) {
		c := putOf(1, i+1, p.Key, "v")
		code := 1
		if i == 256 {
			code = 4
		}
		order = append(order, c)
		events = append(events, asked(c), replied(c, code, ""))
	}
	wantLinear(t, "a full table", events, order, 0, 0)
	events[513].Code = 1
	wantLinear(t, "a full table that was not", events, order, 4, 256)
}

// drawHistory: clients that ask a table one at a time; the order is that in which it was asked.
func drawHistory(random *rand.Rand) ([]impl.Event, []impl.Cmd) {
	var events []impl.Event
	var order []impl.Cmd
	var table impl.Table
	var open, done [4]impl.Event
	var seq [4]int
	for range random.Intn(40) {
		i := random.Intn(4)
		switch {
		case open[i].Kind == 0:
			seq[i]++
			c := drawAsk(random)
			c.Client, c.Seq = i+1, seq[i]
			open[i], done[i] = asked(c), impl.Event{}
			events = append(events, open[i])
		case done[i].Kind == 0:
			a := impl.ApplyCmd(table, open[i].Cmd)
			table = a.Table
			order = append(order, open[i].Cmd)
			done[i] = replied(open[i].Cmd, a.Result, a.Val)
		default:
			events = append(events, done[i])
			open[i] = impl.Event{}
		}
	}
	return events, order
}

// spoilHistory changes one thing, or nothing.
func spoilHistory(random *rand.Rand, events []impl.Event, order []impl.Cmd) ([]impl.Event, []impl.Cmd) {
	i, j := random.Intn(len(events)), random.Intn(len(order))
	switch random.Intn(9) {
	case 0:
		events[i].Code = random.Intn(6)
	case 1:
		events[i].Val = drawWord(random)
	case 2:
		events = slices.Delete(events, i, i+1)
	case 3:
		events[i], events[max(0, i-1)] = events[max(0, i-1)], events[i]
	case 4:
		order = slices.Delete(order, j, j+1)
	case 5:
		order[j], order[max(0, j-1)] = order[max(0, j-1)], order[j]
	case 6:
		order = slices.Insert(order, j, order[random.Intn(len(order))])
	case 7:
		k := random.Intn(len(order))
		order[j], order[k] = order[k], order[j]
	}
	return events, order
}

func TestLinearDrawn(t *testing.T) {
	random := rand.New(rand.NewSource(76))
	codes := map[int]int{}
	for range 6000 {
		events, order := drawHistory(random)
		if got := impl.Linear(events, order); got != (impl.LinearAnswer{}) {
			t.Fatalf("%+v of %s in order %s", got, told(events), told(order))
		}
		for range 1 + random.Intn(2) {
			if len(events) > 0 && len(order) > 0 {
				events, order = spoilHistory(random, events, order)
			}
		}
		got, want := impl.Linear(events, order), modelLinear(events, order)
		if got != want {
			t.Fatalf("%+v, not %+v of %s in order %s", got, want, told(events), told(order))
		}
		codes[got.Code]++
	}
	for _, code := range []int{0, 1, 2, 3, 4, 5} {
		if codes[code] < 30 {
			t.Errorf("code %d only %d times", code, codes[code])
		}
	}
}
