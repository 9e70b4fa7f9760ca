package node

import (
	"slices"
	"testing"

	"tallystick/api"
	"tallystick/crowd"
	"tallystick/honest"
	"tallystick/msg"
	"tallystick/sample"
)

// world is a node, held against the plain one, and those who speak with it.
type world struct {
	*crowd.Crowd
	t   *testing.T
	d   *sample.Dice
	n   *Node
	p   *plain
	who []*speaker // in the order in which they came
}

// speaker is one who answers what the node says, well or not.
type speaker struct {
	id, addr int
	good     bool // do they keep to the rules?
	lazy     bool // do they answer nothing but the greeting?
	way      []api.Block
	model    *honest.Model
	waits    []msg.Msg
}

func newWorld(t *testing.T, d *sample.Dice) *world {
	c := crowd.New(d)
	return &world{Crowd: c, t: t, d: d, n: fresh(t, c.Rules), p: newPlain(c.Rules)}
}

// do lets something happen: what goes out waits at those to whom it goes.
func (w *world) do(e Event) {
	w.t.Helper()
	got, want := w.n.Step(e), w.p.step(e)
	if !sameOuts(got, want) {
		w.t.Fatalf("Step of kind %d: %+v, want %+v", e.Kind, got, want)
	}
	w.p.compare(w.t, w.n)
	if w.t.Failed() {
		w.t.FailNow()
	}
	peers := w.n.Peers()
	w.who = slices.DeleteFunc(w.who, func(s *speaker) bool { return !s.good && !slices.Contains(peers, s.id) })
	for _, o := range got {
		if s := w.find(o.Peer); s != nil {
			s.waits = append(s.waits, o.Msg)
		}
	}
	for _, s := range w.who { // P20.8
		if s.good && s.id <= w.p.came && (w.n.Score(s.id) != 0 || w.n.Banned(s.addr)) {
			w.t.Fatalf("one who keeps to the rules: Score %d, Banned %v", w.n.Score(s.id), w.n.Banned(s.addr))
		}
	}
}

func (w *world) find(id int) *speaker {
	for _, s := range w.who {
		if s.id == id {
			return s
		}
	}
	return nil
}

// some is one of those who came; nil: there is none.
func (w *world) some() *speaker {
	if len(w.who) == 0 {
		return nil
	}
	return w.who[w.d.Below(len(w.who))]
}

// connect: somebody comes; whoever keeps to the rules comes from an address of their own.
func (w *world) connect() {
	w.t.Helper()
	s := &speaker{addr: w.d.Below(20), lazy: w.d.Below(6) == 0, way: w.Way()}
	if w.Rules.Every == 0 && w.d.Below(3) == 0 {
		s.good, s.lazy, s.addr, s.way = true, false, 100+w.p.came, w.Ways[w.d.Below(w.Right)]
	}
	s.model = honest.New(uint64(1<<40+w.d.Next()), s.way...)
	came := w.p.came
	first := w.n.Peers()
	s.id = came + 1
	w.who = append(w.who, s)
	w.do(Event{Kind: Connect, Addr: s.addr})
	if s.good && w.p.came == came { // not taken
		w.who = slices.DeleteFunc(w.who, func(o *speaker) bool { return o == s })
	}
	if w.p.came == came && !slices.Equal(first, w.n.Peers()) {
		w.t.Fatal("somebody is removed, though nobody is taken")
	}
}

// answer lets somebody answer the first message that waits.
func (w *world) answer(s *speaker) {
	w.t.Helper()
	if len(s.waits) == 0 {
		return
	}
	m := s.waits[0]
	s.waits = s.waits[1:]
	list := s.model.Hear(m)
	if s.lazy && m.Kind != msg.Version {
		return
	}
	if !s.good {
		list = w.Spoiled(list, m)
	}
	w.hand(s, crowd.Laid(list...))
}

// hand lets somebody say bytes; whoever doesn't keep to the rules at times in pieces.
func (w *world) hand(s *speaker, b []byte) {
	w.t.Helper()
	pieces := [][]byte{b}
	if !s.good || len(b) == 0 {
		pieces = w.Pieces(b)
	}
	for _, piece := range pieces {
		w.do(Event{Kind: Data, Peer: s.id, Data: piece})
	}
}

// settle lets those who keep to the rules answer all that waits.
func (w *world) settle() {
	w.t.Helper()
	for again := true; again; {
		again = false
		for _, s := range slices.Clone(w.who) {
			for s.good && len(s.waits) > 0 {
				w.answer(s)
				again = true
			}
		}
	}
}

// tick lets time go on: whoever keeps to the rules answered ahead of it.
func (w *world) tick() {
	w.t.Helper()
	w.settle()
	many := w.d.Below(12)
	switch w.d.Below(30) {
	case 0:
		many = w.d.Below(400)
	case 1:
		many = []int{-1, -1 << 62, 1<<20 + 1, 1 << 62, 1 << 20, 5000}[w.d.Below(6)]
	}
	w.do(Event{Kind: Tick, N: many})
}

// turn lets anything happen.
func (w *world) turn() {
	w.t.Helper()
	s := w.some()
	switch k := w.d.Below(100); {
	case k < 6 || s == nil:
		w.connect()
	case k < 7 && !s.good:
		w.do(Event{Kind: Leave, Peer: s.id})
	case k < 8:
		w.do(Event{Kind: Draw, Draw: uint64(w.d.Next()) << w.d.Below(40)})
	case k < 16:
		w.tick()
	case k < 17:
		w.do(Event{Kind: w.d.Below(9) - 2, Peer: []int{-1, 0, w.p.came + 1, 1 << 40}[w.d.Below(4)], Addr: 5, N: 1 << 30, Data: crowd.Laid(w.Chatter())})
	case k < 26 && !s.good && !s.lazy:
		w.hand(s, crowd.Laid(w.Chatter()))
	case k < 27 && !s.good && w.d.Below(4) == 0:
		w.hand(s, w.d.Text(30))
	default:
		w.answer(s)
	}
}

// Whatever happens is taken as the chapter says, and whoever keeps to the rules stays (P20.8).
func TestAnyEvents(t *testing.T) {
	d := sample.Dice(20)
	happens := map[string]int{}
	for range 150 {
		w := newWorld(t, &d)
		for range 400 {
			w.turn()
		}
		for what, n := range w.p.happens {
			happens[what] += n
		}
	}
	often := []string{
		"refused", "not taken", "room is made", "late with the greeting or a pong", "late with headers", "late with a block", "banned",
		"an inv of what isn't there", "a block isn't found", "others are not found", "a block is passed over", "another way is followed",
		"a block: errno 0", "a block: errno 40", "a block: errno 101", "a block: errno 120", "no parent", "not proved, or not in a row",
		"too little work", "headers that came twice fail", "headers came twice", "over: errno 6", "over: errno 100",
		"a header: errno 0", "a header: errno 5", "a header: errno 30", "a header: errno 101", "a header: errno 102", "a header: errno 103",
	}
	for _, what := range often {
		if happens[what] < 5 {
			t.Errorf("%s: %d times", what, happens[what])
		}
	}
	t.Log(happens)
}
