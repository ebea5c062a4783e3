package impl

import "errors"

const (
	MaxServers = 7
	MaxClients = 8
	MaxTerm    = 1073741824
	MaxSeq     = 1073741824
	MaxText    = 64
	MaxBatch   = 32
	MaxLog     = 4096
	MaxFrame   = 16384
	MaxDisk    = 1048576
	MaxRecords = 8192
	MaxPackets = 4096
	MaxElect   = 1000
	MaxNow     = 1099511627776
	MaxPairs   = 256
	MaxSteps   = 4096
	MaxBurst   = 10000
	MaxFuel    = 60000
	MaxDraws   = 4096
	MaxScript  = 65536
	MaxEvents  = 4096
)

const (
	OpNone = 0
	OpGet  = 1
	OpPut  = 2
	OpDel  = 3
	OpCas  = 4
)

const (
	KindPreAsk      = 1
	KindPreReply    = 2
	KindVoteAsk     = 3
	KindVoteReply   = 4
	KindAppend      = 5
	KindAppendReply = 6
	KindCall        = 7
	KindReply       = 8
)

const (
	StatusDone     = 1
	StatusRedirect = 2
)

type Cmd struct {
	Client, Seq, Op int
	Key, Val, Old   string
}
type Entry struct {
	Term int
	Cmd  Cmd
}
type Msg struct {
	Kind, From, To, Term      int
	LogIndex, LogTerm, Commit int
	Ok, Hint                  int
	Entries                   []Entry
}
type Reply struct {
	Client, Seq, Status, Code int
	Val                       string
	Leader                    int
}
type MsgAnswer struct {
	Code, Fault int
	Msg         Msg
}
type CallAnswer struct {
	Code, Fault int
	Cmd         Cmd
}
type ReplyAnswer struct {
	Code, Fault int
	Reply       Reply
}

// One error for each code of a decoder, in the order of the codes.
var (
	errSize   = errors.New("a frame has 9 to 16384 bytes")
	errLength = errors.New("the length told is not that of the body")
	errSum    = errors.New("the check sum told is not that of the body")
	errKind   = errors.New("the kind is not one of this decoder")
	errShape  = errors.New("the body does not read")
	errValue  = errors.New("the value is ill-formed")
)

// refusal wraps the error of a code. Only errValue comes with a fault, the number of the broken rule.
type refusal struct {
	cause error
	fault int
}

func (r refusal) Error() string {
	return r.cause.Error()
}

func (r refusal) Unwrap() error {
	return r.cause
}

func codeOf(err error) int {
	switch {
	case errors.Is(err, errSize):
		return 1
	case errors.Is(err, errLength):
		return 2
	case errors.Is(err, errSum):
		return 3
	case errors.Is(err, errKind):
		return 4
	case errors.Is(err, errShape):
		return 5
	case errors.Is(err, errValue):
		return 6
	}
	return 0
}

func faultOf(err error) int {
	var r refusal
	if errors.As(err, &r) {
		return r.fault
	}
	return 0
}

func within(n, least, most int) bool {
	return least <= n && n <= most
}

func Crc32(data []byte) uint32 {
	sum := ^uint32(0)
	for _, c := range data {
		sum ^= uint32(c)
		for range 8 {
			low := sum & 1
			sum >>= 1
			if low == 1 {
				sum ^= 0xEDB88320
			}
		}
	}
	return ^sum
}

// cmdLimits holds what a command of one Op may have at most; least is the lower bound of Client, Seq and the bytes of Key.
type cmdLimits struct {
	least, client, seq, key, val, old int
}

func limitsOf(op int) cmdLimits {
	if op == OpNone {
		return cmdLimits{}
	}
	l := cmdLimits{least: 1, client: MaxClients, seq: MaxSeq, key: MaxText}
	if op == OpPut || op == OpCas {
		l.val = MaxText
	}
	if op == OpCas {
		l.old = MaxText
	}
	return l
}

func CmdFault(c Cmd) int {
	l := limitsOf(c.Op)
	switch {
	case !within(c.Op, OpNone, OpCas):
		return 1
	case !within(c.Client, l.least, l.client):
		return 2
	case !within(c.Seq, l.least, l.seq):
		return 3
	case !within(len(c.Key), l.least, l.key):
		return 4
	case len(c.Val) > l.val:
		return 5
	case len(c.Old) > l.old:
		return 6
	}
	return 0
}

func entryFits(e Entry) bool {
	return within(e.Term, 1, MaxTerm) && CmdFault(e.Cmd) == 0
}

func MsgFault(m Msg) int {
	switch {
	case !within(m.Kind, KindPreAsk, KindAppendReply):
		return 1
	case !endsFit(m):
		return 2
	case !within(m.Term, 1, MaxTerm):
		return 3
	case !positionFits(m):
		return 4
	case !marksFit(m):
		return 5
	case !entriesFit(m):
		return 6
	}
	return 0
}

func endsFit(m Msg) bool {
	return within(m.From, 1, MaxServers) && within(m.To, 1, MaxServers) && m.From != m.To
}

func positionFits(m Msg) bool {
	switch m.Kind {
	case KindPreAsk, KindVoteAsk, KindAppend:
		return within(m.LogIndex, 0, MaxLog) && within(m.LogTerm, 0, m.Term) && (m.LogTerm == 0) == (m.LogIndex == 0)
	case KindAppendReply:
		return within(m.LogIndex, 0, MaxLog) && m.LogTerm == 0
	}
	return m.LogIndex == 0 && m.LogTerm == 0
}

func marksFit(m Msg) bool {
	commit, ok, hint := 0, 0, 0
	switch m.Kind {
	case KindAppend:
		commit = MaxLog
	case KindPreReply, KindVoteReply:
		ok = 1
	case KindAppendReply:
		ok = 1
		if m.Ok == 0 {
			hint = MaxLog
		}
	}
	return within(m.Commit, 0, commit) && within(m.Ok, 0, ok) && within(m.Hint, 0, hint)
}

func entriesFit(m Msg) bool {
	if m.Kind != KindAppend {
		return len(m.Entries) == 0
	}
	if len(m.Entries) > MaxBatch || m.LogIndex+len(m.Entries) > MaxLog {
		return false
	}
	return entriesRise(m.Entries, m.LogTerm, m.Term)
}

// entriesRise tells whether all are well-formed and their Terms, in least..most, never fall.
func entriesRise(list []Entry, least, most int) bool {
	for _, e := range list {
		if !entryFits(e) || !within(e.Term, least, most) {
			return false
		}
		least = e.Term
	}
	return true
}

func callFault(c Cmd) int {
	fault := CmdFault(c)
	if fault == 0 && c.Op == OpNone {
		return 1
	}
	return fault
}

func replyFault(r Reply) int {
	least, code, val, leader := 0, 0, 0, MaxServers
	if r.Status == StatusDone {
		least, code, val, leader = 1, 4, MaxText, 0
	}
	switch {
	case !within(r.Client, 1, MaxClients):
		return 1
	case !within(r.Seq, 1, MaxSeq):
		return 2
	case !within(r.Status, StatusDone, StatusRedirect):
		return 3
	case !within(r.Code, least, code):
		return 4
	case len(r.Val) > val:
		return 5
	case !within(r.Leader, 0, leader):
		return 6
	}
	return 0
}

func putNumber(out []byte, n int) []byte {
	for n >= 128 {
		out = append(out, byte(n)|128)
		n >>= 7
	}
	return append(out, byte(n))
}

func putNumbers(out []byte, ns ...int) []byte {
	for _, n := range ns {
		out = putNumber(out, n)
	}
	return out
}

func putText(out []byte, s string) []byte {
	return append(putNumber(out, len(s)), s...)
}

func putCmd(out []byte, c Cmd) []byte {
	out = putNumbers(out, c.Client, c.Seq, c.Op)
	out = putText(out, c.Key)
	out = putText(out, c.Val)
	return putText(out, c.Old)
}

func putEntry(out []byte, e Entry) []byte {
	return putCmd(putNumber(out, e.Term), e.Cmd)
}

func putWord(out []byte, w uint32) []byte {
	return append(out, byte(w), byte(w>>8), byte(w>>16), byte(w>>24))
}

func wordAt(b []byte, at int) uint32 {
	return uint32(b[at]) | uint32(b[at+1])<<8 | uint32(b[at+2])<<16 | uint32(b[at+3])<<24
}

// frameHead is the number of bytes ahead of a frame's body.
const frameHead = 8

func sealFrame(raw []byte) []byte {
	out := make([]byte, 0, frameHead+len(raw))
	out = putWord(out, uint32(len(raw)))
	out = putWord(out, Crc32(raw))
	return append(out, raw...)
}

// openFrame gives the bytes of the body, at least one. They are those of b, not a copy.
func openFrame(b []byte) ([]byte, error) {
	if !within(len(b), frameHead+1, MaxFrame) {
		return nil, refusal{cause: errSize}
	}
	raw := b[frameHead:]
	if wordAt(b, 0) != uint32(len(raw)) {
		return nil, refusal{cause: errLength}
	}
	if wordAt(b, 4) != Crc32(raw) {
		return nil, refusal{cause: errSum}
	}
	return raw, nil
}

// reader takes a body apart from left to right. Behind its first refusal it has no bytes left and reads zeros.
type reader struct {
	left []byte
	err  error
}

func (r *reader) refuse() {
	r.left = nil
	if r.err == nil {
		r.err = refusal{cause: errShape}
	}
}

func (r *reader) number() int {
	n := 0
	for i := 0; i < 5 && i < len(r.left); i++ {
		c := r.left[i]
		n |= int(c&127) << (7 * i)
		if c >= 128 {
			continue
		}
		// A last byte of 0 adds nothing: the form without it is shorter.
		if c == 0 && i > 0 {
			break
		}
		r.left = r.left[i+1:]
		return n
	}
	r.refuse()
	return 0
}

func (r *reader) text() string {
	n := r.number()
	if n > MaxText || n > len(r.left) {
		r.refuse()
		return ""
	}
	s := string(r.left[:n])
	r.left = r.left[n:]
	return s
}

func (r *reader) cmd() Cmd {
	var c Cmd
	c.Client = r.number()
	c.Seq = r.number()
	c.Op = r.number()
	c.Key = r.text()
	c.Val = r.text()
	c.Old = r.text()
	return c
}

func (r *reader) entry() Entry {
	term := r.number()
	return Entry{Term: term, Cmd: r.cmd()}
}

func (r *reader) entries() []Entry {
	n := r.number()
	if n > MaxBatch {
		r.refuse()
		return nil
	}
	var list []Entry
	for range n {
		list = append(list, r.entry())
	}
	return list
}

func (r *reader) msg(kind int) Msg {
	m := Msg{Kind: kind}
	m.From = r.number()
	m.To = r.number()
	m.Term = r.number()
	m.LogIndex = r.number()
	m.LogTerm = r.number()
	m.Commit = r.number()
	m.Ok = r.number()
	m.Hint = r.number()
	m.Entries = r.entries()
	return m
}

func (r *reader) reply() Reply {
	var p Reply
	p.Client = r.number()
	p.Seq = r.number()
	p.Status = r.number()
	p.Code = r.number()
	p.Val = r.text()
	p.Leader = r.number()
	return p
}

// end tells whether all was read and nothing is left over.
func (r *reader) end() error {
	if len(r.left) > 0 {
		r.refuse()
	}
	return r.err
}

// body is what a frame of the wire carries. put adds it, the kind byte first, to what is there.
type body interface {
	fault() int
	put(out []byte) []byte
}

type msgBody Msg

type callBody Cmd

type replyBody Reply

func (m msgBody) fault() int {
	return MsgFault(Msg(m))
}

func (c callBody) fault() int {
	return callFault(Cmd(c))
}

func (r replyBody) fault() int {
	return replyFault(Reply(r))
}

func (m msgBody) put(out []byte) []byte {
	out = append(out, byte(m.Kind))
	out = putNumbers(out, m.From, m.To, m.Term, m.LogIndex, m.LogTerm, m.Commit, m.Ok, m.Hint, len(m.Entries))
	for _, e := range m.Entries {
		out = putEntry(out, e)
	}
	return out
}

func (c callBody) put(out []byte) []byte {
	return putCmd(append(out, KindCall), Cmd(c))
}

func (r replyBody) put(out []byte) []byte {
	out = append(out, KindReply)
	out = putNumbers(out, r.Client, r.Seq, r.Status, r.Code)
	out = putText(out, r.Val)
	return putNumber(out, r.Leader)
}

func encodeBody(x body) []byte {
	if x.fault() != 0 {
		return nil
	}
	return sealFrame(x.put(nil))
}

func readBody(kind int, r *reader) body {
	switch kind {
	case KindCall:
		return callBody(r.cmd())
	case KindReply:
		return replyBody(r.reply())
	}
	return msgBody(r.msg(kind))
}

// decodeBody takes the frames whose kind is in first..last. The kind is asked ahead of the rest:
// a frame of another decoder is refused for its kind even if its rest would not read.
func decodeBody(b []byte, first, last int) (body, error) {
	raw, err := openFrame(b)
	if err != nil {
		return nil, err
	}
	kind := int(raw[0])
	if !within(kind, first, last) {
		return nil, refusal{cause: errKind}
	}
	r := &reader{left: raw[1:]}
	x := readBody(kind, r)
	if err := r.end(); err != nil {
		return nil, err
	}
	if fault := x.fault(); fault != 0 {
		return nil, refusal{cause: errValue, fault: fault}
	}
	return x, nil
}

// answer is what any of the decoders answers; at most one of its values is not zero.
type answer struct {
	code, fault int
	msg         Msg
	cmd         Cmd
	reply       Reply
}

func answerOf(x body, err error) answer {
	a := answer{code: codeOf(err), fault: faultOf(err)}
	switch v := x.(type) {
	case msgBody:
		a.msg = Msg(v)
	case callBody:
		a.cmd = Cmd(v)
	case replyBody:
		a.reply = Reply(v)
	}
	return a
}

func EncodeMsg(m Msg) []byte {
	return encodeBody(msgBody(m))
}

func EncodeCall(c Cmd) []byte {
	return encodeBody(callBody(c))
}

func EncodeReply(r Reply) []byte {
	return encodeBody(replyBody(r))
}

func DecodeMsg(b []byte) MsgAnswer {
	a := answerOf(decodeBody(b, KindPreAsk, KindAppendReply))
	return MsgAnswer{Code: a.code, Fault: a.fault, Msg: a.msg}
}

func DecodeCall(b []byte) CallAnswer {
	a := answerOf(decodeBody(b, KindCall, KindCall))
	return CallAnswer{Code: a.code, Fault: a.fault, Cmd: a.cmd}
}

func DecodeReply(b []byte) ReplyAnswer {
	a := answerOf(decodeBody(b, KindReply, KindReply))
	return ReplyAnswer{Code: a.code, Fault: a.fault, Reply: a.reply}
}
