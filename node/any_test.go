package node

import (
	"slices"
	"testing"

	"tallystick/api"
	"tallystick/head"
	"tallystick/honest"
	"tallystick/msg"
	"tallystick/sample"
)

// world is a node, held against the plain one, and those who speak with it.
type world struct {
	t     *testing.T
	d     *sample.Dice
	rules api.Rules
	n     *Node
	p     *plain
	ways  [][]api.Block // of which the first ones are right
	right int           // so many
	who   []*speaker    // in the order in which they came
}

// speaker is one who answers what the node says, well or not.
type speaker struct {
	id, addr int
	good     bool // do they keep to the rules?
	lazy     bool // do they answer nothing but the greeting?
	way      []api.Block
	model    *honest.Model
	waits    []msg.Msg
}

// behind is the beginning of a chain, up to a height, and so many other blocks behind it.
func behind(r api.Rules, blocks []api.Block, height, many int, mark byte, more ...api.Tx) []api.Block {
	list := slices.Clone(blocks[:height+1])
	for range many {
		last := len(list) - 1
		b, ok := honest.Grow(r, list[last].Header, last+1, mark, more...)
		if !ok {
			break
		}
		list = append(list, b)
		more = nil // one is enough
	}
	return list
}

// wrongs are transactions by which a block is wrong, by itself and behind others.
func wrongs() []api.Tx {
	return []api.Tx{
		{Ins: []api.In{{Point: api.Point{Tx: api.ID{1}}, Key: []byte("k")}}},
		sample.Moved(sample.Made(1, 50), 0, 50),
	}
}

func newWorld(t *testing.T, d *sample.Dice) *world {
	r := honest.Rules([]int{0, 1, 5, 33, 34, 40, 64, 65, 90}[d.Below(9)])
	r.Spacing = []int{10, 10, 10, 50, 100, 400}[d.Below(6)]
	if d.Below(8) == 0 {
		r.Every = 1 + d.Below(40)
	}
	n, _ := New(r)
	w := &world{t: t, d: d, rules: r, n: n, p: newPlain(r)}
	trunk := honest.Chain(r, 30+d.Below(90), 1)
	top := len(trunk) - 1
	one := behind(r, trunk, d.Below(top), 10+d.Below(100), 2)
	two := behind(r, one, d.Below(len(one)), 5+d.Below(40), 3)
	w.ways = [][]api.Block{trunk, one, two}
	w.right = len(w.ways)
	for i, x := range wrongs() {
		w.ways = append(w.ways, behind(r, one, d.Below(len(one)), 20+d.Below(40), byte(10+i), x))
	}
	old, other := r, r
	old.Spacing = 0
	other.Genesis.Time = 1
	w.ways = append(w.ways, behind(old, trunk, d.Below(top), 40, 5), honest.Chain(other, 40, 4))
	return w
}

// do lets something happen: what goes out waits at those to whom it goes.
func (w *world) do(e Event) {
	w.t.Helper()
	got, want := w.n.Step(e), w.p.step(e)
	if !sameOuts(got, want) {
		w.t.Fatalf("Step of kind %d: %+v, want %+v", e.Kind, got, want)
	}
	w.p.compare(w.t, w.n)
	if w.t.Failed() {
		w.t.FailNow()
	}
	peers := w.n.Peers()
	w.who = slices.DeleteFunc(w.who, func(s *speaker) bool { return !s.good && !slices.Contains(peers, s.id) })
	for _, o := range got {
		if s := w.find(o.Peer); s != nil {
			s.waits = append(s.waits, o.Msg)
		}
	}
	for _, s := range w.who { // P20.8
		if s.good && s.id <= w.p.came && (w.n.Score(s.id) != 0 || w.n.Banned(s.addr)) {
			w.t.Fatalf("one who keeps to the rules: Score %d, Banned %v", w.n.Score(s.id), w.n.Banned(s.addr))
		}
	}
}

func (w *world) find(id int) *speaker {
	for _, s := range w.who {
		if s.id == id {
			return s
		}
	}
	return nil
}

// some is one of those who came; nil: there is none.
func (w *world) some() *speaker {
	if len(w.who) == 0 {
		return nil
	}
	return w.who[w.d.Below(len(w.who))]
}

func (w *world) someWay() []api.Block { return w.ways[w.d.Below(len(w.ways))] }

func (w *world) someBlock() api.Block {
	way := w.someWay()
	return way[w.d.Below(len(way))]
}

// connect: somebody comes; whoever keeps to the rules comes from an address of their own.
func (w *world) connect() {
	w.t.Helper()
	s := &speaker{addr: w.d.Below(20), lazy: w.d.Below(6) == 0, way: w.someWay()}
	if w.rules.Every == 0 && w.d.Below(3) == 0 {
		s.good, s.lazy, s.addr, s.way = true, false, 100+w.p.came, w.ways[w.d.Below(w.right)]
	}
	s.model = honest.New(uint64(1<<40+w.d.Next()), s.way...)
	came := w.p.came
	first := w.n.Peers()
	s.id = came + 1
	w.who = append(w.who, s)
	w.do(Event{Kind: Connect, Addr: s.addr})
	if s.good && w.p.came == came { // not taken
		w.who = slices.DeleteFunc(w.who, func(o *speaker) bool { return o == s })
	}
	if w.p.came == came && !slices.Equal(first, w.n.Peers()) {
		w.t.Fatal("somebody is removed, though nobody is taken")
	}
}

// answer lets somebody answer the first message that waits.
func (w *world) answer(s *speaker) {
	w.t.Helper()
	if len(s.waits) == 0 {
		return
	}
	m := s.waits[0]
	s.waits = s.waits[1:]
	list := s.model.Hear(m)
	if s.lazy && m.Kind != msg.Version {
		return
	}
	if !s.good {
		list = w.spoiled(list, m)
	}
	w.hand(s, laid(list...))
}

// hand lets somebody say bytes; at times in pieces.
func (w *world) hand(s *speaker, b []byte) {
	w.t.Helper()
	for !s.good && len(b) > 1 && w.d.Below(4) == 0 {
		k := 1 + w.d.Below(len(b)-1)
		w.do(Event{Kind: Data, Peer: s.id, Data: b[:k]})
		b = b[k:]
	}
	if len(b) > 0 {
		w.do(Event{Kind: Data, Peer: s.id, Data: b})
	}
}

// spoiled is an answer in which something may be wrong.
func (w *world) spoiled(list []msg.Msg, m msg.Msg) []msg.Msg {
	switch w.d.Below(40) {
	case 0:
		return nil
	case 1:
		return append(list, list...)
	case 2:
		return append(list, w.chatter())
	case 3:
		return append([]msg.Msg{w.chatter()}, list...)
	case 4:
		if m.Kind == msg.GetData {
			return []msg.Msg{{Kind: msg.NotFound, Names: m.Names}}
		}
	case 5:
		slices.Reverse(list)
	case 6, 7:
		for i := range list {
			w.spoil(&list[i])
		}
	}
	return list
}

// spoil turns something of a message.
func (w *world) spoil(m *msg.Msg) {
	if m.Kind == msg.Block {
		m.Block.Txs = append(m.Block.Txs, wrongs()[1])
	}
	if m.Kind != msg.Headers || len(m.Heads) == 0 {
		return
	}
	k := w.d.Below(len(m.Heads))
	switch w.d.Below(6) {
	case 0:
		m.Heads = m.Heads[:k]
	case 1:
		m.Heads = m.Heads[k:]
	case 2:
		m.Heads[k].Nonce++
	case 3:
		m.Heads = slices.Delete(m.Heads, k, k+1)
	case 4:
		m.Heads[k].Bits = 0x203fffff
	case 5: // others that are as right
		rest := len(m.Heads) - k
		for i := range rest {
			h := m.Heads[k+i]
			h.Version++
			if k+i > 0 {
				h.Prev = head.ID(m.Heads[k+i-1])
			}
			h.Nonce = 0
			m.Heads[k+i], _ = head.Mine(h, w.rules.Limit, 1<<16)
		}
	}
}

// names are those of some blocks, and at times others.
func (w *world) names(most int) []api.ID {
	var list []api.ID
	for range w.d.Below(most + 1) {
		id := head.ID(w.someBlock().Header)
		if w.d.Below(20) == 0 {
			id = w.d.ID()
		}
		list = append(list, id)
	}
	return list
}

// chatter is anything that may be said.
func (w *world) chatter() msg.Msg {
	way := w.someWay()
	at := w.d.Below(len(way))
	switch w.d.Below(12) {
	case 0:
		return msg.Msg{Kind: msg.GetHeaders, Names: w.names(5), Stop: head.ID(w.someBlock().Header)}
	case 1:
		return msg.Msg{Kind: msg.GetHeaders, Names: w.names(5)}
	case 2:
		return msg.Msg{Kind: msg.GetData, Names: w.names(30)}
	case 3, 4:
		return msg.Msg{Kind: msg.Inv, Names: w.names(3)}
	case 5:
		return msg.Msg{Kind: msg.NotFound, Names: w.names(3)}
	case 6:
		return msg.Msg{Kind: msg.Block, Block: way[at]}
	case 7:
		return msg.Msg{Kind: []int{msg.Version, msg.Verack, msg.Ping, msg.Pong}[w.d.Below(4)], Nonce: uint64(w.d.Below(500))}
	}
	many := 32
	if w.d.Below(2) == 0 {
		many = w.d.Below(33)
	}
	m := msg.Msg{Kind: msg.Headers}
	for _, b := range way[min(at, len(way)):min(at+many, len(way))] {
		m.Heads = append(m.Heads, b.Header)
	}
	if w.d.Below(4) == 0 {
		w.spoil(&m)
	}
	return m
}

// settle lets those who keep to the rules answer all that waits.
func (w *world) settle() {
	w.t.Helper()
	for again := true; again; {
		again = false
		for _, s := range slices.Clone(w.who) {
			for s.good && len(s.waits) > 0 {
				w.answer(s)
				again = true
			}
		}
	}
}

// tick lets time go on: whoever keeps to the rules answered ahead of it.
func (w *world) tick() {
	w.t.Helper()
	w.settle()
	many := w.d.Below(12)
	switch w.d.Below(30) {
	case 0:
		many = w.d.Below(400)
	case 1:
		many = []int{-1, -1 << 62, 1<<20 + 1, 1 << 62, 1 << 20, 5000}[w.d.Below(6)]
	}
	w.do(Event{Kind: Tick, N: many})
}

// turn lets anything happen.
func (w *world) turn() {
	w.t.Helper()
	s := w.some()
	switch k := w.d.Below(100); {
	case k < 6 || s == nil:
		w.connect()
	case k < 7 && !s.good:
		w.do(Event{Kind: Leave, Peer: s.id})
	case k < 8:
		w.do(Event{Kind: Draw, Draw: uint64(w.d.Next()) << w.d.Below(40)})
	case k < 16:
		w.tick()
	case k < 17:
		w.do(Event{Kind: w.d.Below(9) - 2, Peer: []int{-1, 0, w.p.came + 1, 1 << 40}[w.d.Below(4)], Addr: 5, N: 1 << 30, Data: laid(w.chatter())})
	case k < 26 && !s.good && !s.lazy:
		w.hand(s, laid(w.chatter()))
	case k < 27 && !s.good && w.d.Below(4) == 0:
		w.hand(s, w.d.Text(30))
	default:
		w.answer(s)
	}
}

// laid is messages' bytes.
func laid(list ...msg.Msg) []byte {
	b, e := msg.All(list...)
	if e != api.OK {
		panic(e)
	}
	return b
}

// Whatever happens is taken as the chapter says, and whoever keeps to the rules stays (P20.8).
func TestAnyEvents(t *testing.T) {
	d := sample.Dice(20)
	happens := map[string]int{}
	for range 150 {
		w := newWorld(t, &d)
		for range 400 {
			w.turn()
		}
		for what, n := range w.p.happens {
			happens[what] += n
		}
	}
	often := []string{
		"refused", "not taken", "room is made", "late with the greeting or a pong", "late with headers", "late with a block", "banned",
		"an inv of what isn't there", "a block isn't found", "others are not found", "a block is passed over", "another way is followed",
		"a block: errno 0", "a block: errno 40", "a block: errno 101", "a block: errno 120", "no parent", "not proved, or not in a row",
		"too little work", "headers that came twice fail", "headers came twice", "over: errno 6", "over: errno 100",
		"a header: errno 0", "a header: errno 5", "a header: errno 30", "a header: errno 101", "a header: errno 102", "a header: errno 103",
	}
	for _, what := range often {
		if happens[what] < 5 {
			t.Errorf("%s: %d times", what, happens[what])
		}
	}
	t.Log(happens)
}
