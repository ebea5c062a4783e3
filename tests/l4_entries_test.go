package tests

import (
	"slices"
	"testing"

	"loop.example/s01586/impl"
)

// heard is n as soon as it takes entries of the leader 4 in the term into account.
func heard(n impl.Node, term int) impl.Node {
	if term > n.Term {
		n.Vote = 0
	}
	n.Term, n.Role, n.Leader, n.Heard, n.Deadline = term, impl.RoleFollower, 4, n.Now, n.Now+n.Elect+7
	for _, list := range nodeLists(&n) {
		*list = nil
	}
	return n
}

func appendOf(term, index, logTerm, commit int, entries ...impl.Entry) impl.Msg {
	return impl.Msg{Kind: impl.KindAppend, From: 4, To: 2, Term: term, LogIndex: index, LogTerm: logTerm, Commit: commit, Entries: entries}
}

// wantAppend tries the message in every role that takes it; log and commit are those behind it.
func wantAppend(t *testing.T, what string, m impl.Msg, log []impl.Entry, commit int, answer impl.Msg) {
	t.Helper()
	answer.Kind, answer.From, answer.To, answer.Term = impl.KindAppendReply, 2, 4, m.Term
	for _, role := range roles {
		if role == impl.RoleLeader && m.Term == 5 {
			continue
		}
		n := nodeIn(role, 5)
		want := impl.StepAnswer{Drew: 1, Node: heard(n, m.Term), Out: []impl.Msg{answer}}
		want.Node.Log, want.Node.Commit = log, commit
		wantStep(t, what, n, msgOf(m), want)
	}
}

func TestEntriesThatDoNotJoin(t *testing.T) {
	log := nodeIn(0, 5).Log
	for _, term := range []int{5, 6} {
		for _, c := range []struct{ index, logTerm, hint int }{
			{6, 4, 5}, {7, 5, 5}, {impl.MaxLog, 5, 5}, {5, 3, 4}, {5, 5, 4}, {4, 2, 3}, {3, 4, 2}, {2, 2, 1}, {1, 3, 0},
		} {
			answer := impl.Msg{LogIndex: c.index, Hint: c.hint}
			wantAppend(t, "no such place", appendOf(term, c.index, c.logTerm, 5), log, 2, answer)
			if c.index < impl.MaxLog {
				wantAppend(t, "no such place", appendOf(term, c.index, c.logTerm, 9, impl.Entry{Term: 5}), log, 2, answer)
			}
		}
	}
}

func TestEntriesThatJoin(t *testing.T) {
	log := nodeIn(0, 5).Log
	x, y := putEntry(5, 70, "x"), putEntry(5, 71, "y")
	with := func(n int, more ...impl.Entry) []impl.Entry { return append(slices.Clone(log[:n]), more...) }
	for _, term := range []int{5, 6} {
		for _, c := range []struct {
			what           string
			index, logTerm int
			entries        []impl.Entry
			log            []impl.Entry
		}{
			{"a heartbeat at the end", 5, 4, nil, log},
			{"a heartbeat at the start", 0, 0, nil, log},
			{"a heartbeat between", 3, 2, nil, log},
			{"one at the end", 5, 4, []impl.Entry{x}, with(5, x)},
			{"two at the end", 5, 4, []impl.Entry{x, y}, with(5, x, y)},
			{"some that are there", 2, 1, log[2:4], log},
			{"all that are there", 0, 0, log, log},
			{"one that is there, one more", 4, 4, []impl.Entry{log[4], x}, with(5, x)},
			{"all that are there, one more", 0, 0, with(5, y), with(5, y)},
			{"one of another term", 4, 4, []impl.Entry{x}, with(4, x)},
			{"one that is there, one of another term", 2, 1, []impl.Entry{log[2], x}, with(3, x)},
			{"the first place that is not agreed", 2, 1, []impl.Entry{x}, with(2, x)},
			{"one of a lower term", 2, 1, []impl.Entry{{Term: 1}, {Term: 1}, {Term: 1}}, with(2, blanks(1, 1, 1)...)},
			{"the same term, another command", 4, 4, []impl.Entry{putEntry(4, 90, "z")}, log},
		} {
			end := c.index + len(c.entries)
			for _, commit := range []int{0, 1, 2, 3, end, end + 1, impl.MaxLog} {
				wantAppend(t, c.what, appendOf(term, c.index, c.logTerm, commit, c.entries...), c.log, max(2, min(commit, end)), impl.Msg{Ok: 1, LogIndex: end})
			}
		}
	}
}

// Entries that would replace an agreed one are not followed: no answer, but the leader is known from now on.
func TestEntriesAgainstTheAgreed(t *testing.T) {
	for _, term := range []int{5, 6} {
		for _, m := range []impl.Msg{
			appendOf(term, 1, 1, 5, impl.Entry{Term: 2}), appendOf(term, 0, 0, 5, impl.Entry{Term: 2}), appendOf(term, 0, 0, 0, blanks(1, 2, 2, 4, 4, 5)...),
			appendOf(term, 0, 0, 1, blanks(5, 5, 5)...),
		} {
			for _, role := range roles {
				n := nodeIn(role, 5)
				if role == impl.RoleLeader && term == 5 {
					wantNothing(t, "a leader of the same term", n, msgOf(m), 3)
					continue
				}
				wantStep(t, "against the agreed", n, msgOf(m), impl.StepAnswer{Code: 3, Drew: 1, Node: heard(n, term)})
			}
		}
	}
	// Where just the agreed places are there, the next one is free.
	n := nodeIn(impl.RoleFollower, 5)
	n.Log = n.Log[:2]
	want := impl.StepAnswer{Drew: 1, Node: heard(n, 5), Out: []impl.Msg{{Kind: impl.KindAppendReply, From: 2, To: 4, Term: 5, Ok: 1, LogIndex: 3}}}
	want.Node.Log = append(slices.Clone(n.Log), impl.Entry{Term: 3})
	wantStep(t, "behind the agreed", n, msgOf(appendOf(5, 2, 1, 0, impl.Entry{Term: 3})), want)
}

// Entries of a lower term bring no more than the answer with the node's own term.
func TestEntriesOfALowerTerm(t *testing.T) {
	for _, role := range roles {
		for _, index := range []int{0, 3, impl.MaxLog} {
			n := nodeIn(role, 5)
			m := appendOf(4, index, min(index, 4), impl.MaxLog)
			answer := impl.Msg{Kind: impl.KindAppendReply, From: 2, To: 4, Term: 5, LogIndex: index}
			wantStep(t, "a lower term", n, msgOf(m), impl.StepAnswer{Node: n, Out: []impl.Msg{answer}})
		}
	}
}

func TestEntriesAtTheLogsEnd(t *testing.T) {
	n := nodeIn(impl.RoleFollower, 5)
	n.Log, n.Commit = longLog(impl.MaxLog-32, 5), 9
	m := appendOf(5, impl.MaxLog-32, 5, impl.MaxLog, longLog(32, 5)...)
	want := impl.StepAnswer{Drew: 1, Node: heard(n, 5), Out: []impl.Msg{{Kind: impl.KindAppendReply, From: 2, To: 4, Term: 5, Ok: 1, LogIndex: impl.MaxLog}}}
	want.Node.Log, want.Node.Commit = append(slices.Clone(n.Log), m.Entries...), impl.MaxLog
	wantStep(t, "a full batch up to the last place", n, msgOf(m), want)
	n = want.Node
	n.Commit = impl.MaxLog - 1
	m = appendOf(6, impl.MaxLog-1, 5, 0, impl.Entry{Term: 6})
	want = impl.StepAnswer{Drew: 1, Node: heard(n, 6), Out: []impl.Msg{{Kind: impl.KindAppendReply, From: 2, To: 4, Term: 6, Ok: 1, LogIndex: impl.MaxLog}}}
	want.Node.Log = append(slices.Clone(n.Log[:impl.MaxLog-1]), impl.Entry{Term: 6})
	wantStep(t, "another last entry", n, msgOf(m), want)
	m = appendOf(6, impl.MaxLog-1, 5, 0, blanks(6, 6)...)
	wantNothing(t, "one place too far", n, msgOf(m), 1)
}

func yes(from, index int) impl.Input {
	return msgOf(impl.Msg{Kind: impl.KindAppendReply, From: from, To: 2, Term: 5, Ok: 1, LogIndex: index})
}

func no(from, index, hint int) impl.Input {
	return msgOf(impl.Msg{Kind: impl.KindAppendReply, From: from, To: 2, Term: 5, LogIndex: index, Hint: hint})
}

// An answer with Ok 1 moves the peer's marks forward, never back, and the rest of the log goes out.
func TestLeaderHearsYes(t *testing.T) {
	for _, c := range []struct{ next, match, index, newNext, newMatch int }{
		{4, 2, 0, 4, 2}, {4, 2, 1, 4, 2}, {4, 2, 2, 4, 2}, {4, 2, 3, 4, 3}, {4, 2, 4, 5, 4}, {4, 2, 5, 6, 5}, {6, 0, 3, 6, 3}, {6, 5, 5, 6, 5}, {1, 0, 0, 1, 0}, {6, 2, 4, 6, 4},
	} {
		n := nodeIn(impl.RoleLeader, 5)
		n.Next[3], n.Match[3] = c.next, c.match
		want := impl.StepAnswer{Node: cloneNode(n)}
		want.Node.Next[3], want.Node.Match[3], want.Node.Seen[3] = c.newNext, c.newMatch, 100
		if c.newNext <= 5 {
			want.Out = []impl.Msg{entriesTo(want.Node, 4)}
			want.Node.Sent[3] = 100
		}
		wantStep(t, "yes", n, yes(4, c.index), want)
	}
}

func TestLeaderHearsNo(t *testing.T) {
	for _, c := range []struct{ next, match, hint, newNext int }{
		{4, 2, 0, 3}, {4, 2, 1, 3}, {4, 2, 2, 3}, {4, 2, 3, 3}, {4, 2, impl.MaxLog, 3}, {6, 0, 0, 1}, {6, 0, 2, 3}, {6, 0, 4, 5}, {6, 0, 5, 5}, {6, 0, 9, 5}, {6, 5, 0, 6}, {6, 5, 9, 6}, {6, 4, 3, 5}, {2, 0, 0, 1}, {2, 0, 1, 1}, {1, 0, 0, 1}, {1, 0, 7, 1},
	} {
		n := nodeIn(impl.RoleLeader, 5)
		n.Next[3], n.Match[3] = c.next, c.match
		want := impl.StepAnswer{Node: cloneNode(n)}
		want.Node.Next[3], want.Node.Seen[3] = c.newNext, 100
		want.Out = []impl.Msg{entriesTo(want.Node, 4)}
		want.Node.Sent[3] = 100
		wantStep(t, "no", n, no(4, c.next-1, c.hint), want)
		for _, index := range []int{0, c.next - 2, c.next, impl.MaxLog} {
			if index >= 0 && index != c.next-1 {
				want := impl.StepAnswer{Code: 3, Node: cloneNode(n)}
				want.Node.Seen[3] = 100
				wantStep(t, "an old no", n, no(4, index, c.hint), want)
			}
		}
	}
}

// An answer about places that the leader does not have counts as heard, and for nothing else.
func TestLeaderHearsTooMuch(t *testing.T) {
	for _, index := range []int{6, 7, impl.MaxLog} {
		n := nodeIn(impl.RoleLeader, 3)
		want := impl.StepAnswer{Code: 3, Node: cloneNode(n)}
		want.Node.Seen[2] = 100
		wantStep(t, "too much", n, yes(3, index), want)
	}
}

// leaderWith has a log of the terms and knows that its peers, in ascending order, hold that many places.
func leaderWith(terms []int, commit int, matches ...int) impl.Node {
	n := nodeIn(impl.RoleLeader, len(matches)+1)
	n.Log, n.Commit = blanks(terms...), commit
	for i, j := range othersOf(n) {
		n.Next[j-1], n.Match[j-1] = matches[i]+1, matches[i]
	}
	return n
}

// The greatest place of the leader's own term that a majority has is agreed, with all ahead of it.
func TestLeaderAgrees(t *testing.T) {
	for _, c := range []struct {
		terms   []int
		commit  int
		matches []int
		index   int
		want    int
	}{
		{[]int{5, 5, 5}, 0, []int{0, 0}, 0, 0}, {[]int{5, 5, 5}, 0, []int{0, 0}, 1, 1}, {[]int{5, 5, 5}, 0, []int{0, 0}, 3, 3},
		{[]int{5, 5, 5}, 2, []int{0, 0}, 1, 2}, {[]int{5, 5, 5}, 2, []int{0, 0}, 3, 3}, {[]int{5, 5, 5}, 3, []int{0, 3}, 1, 3},
		{[]int{5, 5, 5}, 0, []int{0, 2}, 0, 2},
		{[]int{4, 4, 5}, 0, []int{0, 0}, 1, 0}, {[]int{4, 4, 5}, 0, []int{0, 0}, 2, 0}, {[]int{4, 4, 5}, 0, []int{0, 0}, 3, 3}, {[]int{4, 4, 4}, 0, []int{0, 3}, 3, 0},
		{[]int{4, 4, 4}, 1, []int{3, 3}, 3, 1}, {[]int{3, 5, 5}, 1, []int{0, 0}, 2, 2},
		{[]int{5, 5, 5}, 0, []int{0, 0, 0, 0}, 3, 0}, {[]int{5, 5, 5}, 0, []int{0, 1, 0, 0}, 3, 1}, {[]int{5, 5, 5}, 0, []int{0, 3, 2, 0}, 2, 2}, {[]int{5, 5, 5}, 0, []int{0, 3, 3, 0}, 1, 3},
		{[]int{5, 5, 5}, 0, []int{0, 0, 2, 0, 3, 0}, 1, 1}, {[]int{5, 5, 5}, 0, []int{0, 0, 2, 0, 3, 0}, 3, 2}, {[]int{5, 5, 5}, 0, []int{0, 0, 1, 0, 0, 0}, 3, 0},
	} {
		n := leaderWith(c.terms, c.commit, c.matches...)
		a := impl.StepNode(n, yes(1, c.index))
		if a.Code != 0 || a.Node.Commit != c.want {
			t.Errorf("log %v, %d agreed, matches %v, %d comes: %d agreed, not %d", c.terms, c.commit, c.matches, c.index, a.Node.Commit, c.want)
		}
		wantStep(t, "agreement", n, yes(1, c.index), modelStep(n, yes(1, c.index)))
		for _, m := range a.Out {
			if m.Commit != c.want {
				t.Errorf("what goes out tells %d as agreed, not %d", m.Commit, c.want)
			}
		}
	}
}

// Old proposals' answers and those of a peer far behind: each brings the next batch.
func TestLeaderSendsTheNextBatch(t *testing.T) {
	n := leaderWith(nil, 0, 0, 0)
	n.Log = longLog(70, 5)
	for _, end := range []int{32, 64, 70} {
		a := impl.StepNode(n, yes(3, end))
		left := min(32, 70-end)
		if left == 0 && len(a.Out) != 0 || left > 0 && (len(a.Out) != 1 || len(a.Out[0].Entries) != left || a.Out[0].LogIndex != end || a.Out[0].To != 3) {
			t.Errorf("behind %d: %s", end, told(a.Out))
		}
		if a.Node.Commit != end {
			t.Errorf("%d agreed, not %d", a.Node.Commit, end)
		}
		n = a.Node
	}
}
