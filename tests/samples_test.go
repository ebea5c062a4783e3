package tests

import "loop.example/s01586/impl"

// cmdSamples: well-formed commands of each Op but OpNone, at the limits and between them.
func cmdSamples() []impl.Cmd {
	var out []impl.Cmd
	for op := impl.OpGet; op <= impl.OpCas; op++ {
		for _, client := range []int{1, 5, impl.MaxClients} {
			for _, seq := range []int{1, 127, 128, 300, 16383, 16384, 2097151, 2097152, 268435455, 268435456, impl.MaxSeq} {
				out = append(out, impl.Cmd{Client: client, Seq: seq, Op: op, Key: "k"})
			}
		}
		out = append(out, textSamples(op)...)
	}
	return out
}

func textSamples(op int) []impl.Cmd {
	var out []impl.Cmd
	sizes := []int{0, 1, 2, impl.MaxText - 1, impl.MaxText}
	for _, key := range sizes[1:] {
		c := impl.Cmd{Client: 2, Seq: 9, Op: op, Key: letters(key)}
		out = append(out, c)
		if op != impl.OpPut && op != impl.OpCas {
			continue
		}
		for i, val := range sizes {
			c.Val = letters(val)
			if op == impl.OpCas {
				c.Old = letters(sizes[len(sizes)-1-i])
			}
			out = append(out, c)
		}
	}
	return append(out, impl.Cmd{Client: 3, Seq: 4, Op: op, Key: "\x00\xff \n\x80"})
}

func replySamples() []impl.Reply {
	var out []impl.Reply
	for _, seq := range []int{1, 127, 128, 16384, 2097152, 268435456, impl.MaxSeq} {
		for leader := 0; leader <= impl.MaxServers; leader++ {
			out = append(out, impl.Reply{Client: 1, Seq: seq, Status: impl.StatusRedirect, Leader: leader})
		}
		for code := 1; code <= 4; code++ {
			for _, n := range []int{0, 1, impl.MaxText - 1, impl.MaxText} {
				out = append(out, impl.Reply{Client: impl.MaxClients, Seq: seq, Status: impl.StatusDone, Code: code, Val: letters(n)})
			}
		}
	}
	return out
}

// msgSamples: well-formed messages of each kind, at the limits and between them.
func msgSamples() []impl.Msg {
	var out []impl.Msg
	for kind := impl.KindPreAsk; kind <= impl.KindAppendReply; kind++ {
		for _, term := range []int{1, 127, 128, 16384, 2097152, 268435456, impl.MaxTerm} {
			out = append(out, kindSamples(impl.Msg{Kind: kind, From: 1, To: impl.MaxServers, Term: term})...)
		}
		out = append(out, impl.Msg{Kind: kind, From: impl.MaxServers, To: 1, Term: 3})
	}
	return append(out, batchSamples()...)
}

func kindSamples(m impl.Msg) []impl.Msg {
	out := []impl.Msg{m}
	switch m.Kind {
	case impl.KindPreReply, impl.KindVoteReply:
		m.Ok = 1
		return append(out, m)
	case impl.KindAppendReply:
		for _, n := range []int{0, 1, 128, impl.MaxLog} {
			yes, no := m, m
			yes.Ok, yes.LogIndex = 1, n
			no.LogIndex, no.Hint = impl.MaxLog-n, n
			out = append(out, yes, no)
		}
		return out
	}
	for _, n := range []int{1, 128, impl.MaxLog} {
		m.LogIndex, m.LogTerm = n, m.Term
		out = append(out, m)
		m.LogTerm = 1
		if m.Kind == impl.KindAppend {
			m.Commit = n
		}
		out = append(out, m)
	}
	return out
}

func batchSamples() []impl.Msg {
	var out []impl.Msg
	for _, n := range []int{0, 1, 2, impl.MaxBatch - 1, impl.MaxBatch} {
		m := impl.Msg{Kind: impl.KindAppend, From: 2, To: 5, Term: 9, LogIndex: impl.MaxLog - n, LogTerm: 4, Commit: impl.MaxLog}
		cmds := cmdSamples()
		for i := range n {
			e := impl.Entry{Term: 4 + min(i, 5)}
			if i%3 != 1 {
				e.Cmd = cmds[i*7%len(cmds)]
			}
			m.Entries = append(m.Entries, e)
		}
		out = append(out, m)
	}
	return append(out, longestMsg())
}

// longestMsg has the longest frame of all.
func longestMsg() impl.Msg {
	m := impl.Msg{Kind: impl.KindAppend, From: 6, To: 7, Term: impl.MaxTerm, LogIndex: impl.MaxLog - impl.MaxBatch, LogTerm: impl.MaxTerm, Commit: impl.MaxLog}
	for range impl.MaxBatch {
		c := impl.Cmd{Client: impl.MaxClients, Seq: impl.MaxSeq, Op: impl.OpCas, Key: letters(impl.MaxText), Val: letters(impl.MaxText), Old: letters(impl.MaxText)}
		m.Entries = append(m.Entries, impl.Entry{Term: impl.MaxTerm, Cmd: c})
	}
	return m
}

// frameSamples: a frame of each sample.
func frameSamples() [][]byte {
	var out [][]byte
	for _, m := range msgSamples() {
		out = append(out, impl.EncodeMsg(m))
	}
	for _, c := range cmdSamples() {
		out = append(out, impl.EncodeCall(c))
	}
	for _, r := range replySamples() {
		out = append(out, impl.EncodeReply(r))
	}
	return out
}
