package trace

import (
	"slices"
	"testing"

	"tallystick/api"
	"tallystick/crowd"
	"tallystick/frame"
	"tallystick/head"
	"tallystick/honest"
	"tallystick/msg"
	"tallystick/node"
	"tallystick/sample"
)

// watch is a node, and a book by which all that it says is looked at.
type watch struct {
	t     *testing.T
	n     *node.Node
	book  Book
	feeds map[int]*frame.Feed // of all peers
	said  map[int]int         // by kinds: how often
	gone  int
	high  int // how high above the last block that is followed one was asked for, at most
}

func newWatch(t *testing.T, r api.Rules) *watch {
	t.Helper()
	n, e := node.New(r)
	if e != api.OK {
		t.Fatal(e)
	}
	return &watch{t: t, n: n, feeds: map[int]*frame.Feed{}, said: map[int]int{}}
}

// do lets something happen, as P21.4 tells of it: what goes out.
func (w *watch) do(e node.Event) []node.Out {
	w.t.Helper()
	outs := w.n.Step(e)
	w.count()
	if f := w.feeds[e.Peer]; f != nil && e.Kind == node.Data {
		for _, whole := range f.Add(e.Data) {
			if m, e2 := msg.Decode(whole); e2 == api.OK {
				w.book.Heard(e.Peer, m, head.ID(m.Block.Header))
			}
		}
	}
	for _, o := range outs {
		if w.feeds[o.Peer] == nil {
			continue
		}
		if e := w.book.Said(o.Peer, o.Msg); e != api.OK {
			w.t.Fatalf("%+v goes to %d: %v", o.Msg, o.Peer, e)
		}
		w.said[o.Msg.Kind]++
		if o.Msg.Kind == msg.GetData {
			w.wanted(o.Msg.Names)
		}
	}
	for _, id := range w.n.Peers() {
		if w.book.Asked(id) != w.n.Flights(id) {
			w.t.Fatalf("%d is asked for %d blocks, by the book for %d", id, w.n.Flights(id), w.book.Asked(id))
		}
	}
	return outs
}

// count tells the book who came, and who is gone.
func (w *watch) count() {
	w.t.Helper()
	now := w.n.Peers()
	for id := range w.feeds {
		if !slices.Contains(now, id) {
			w.book.Gone(id)
			delete(w.feeds, id)
			w.gone++
		}
	}
	for _, id := range now {
		if w.feeds[id] == nil {
			came(w.t, &w.book, id, api.OK)
			w.feeds[id] = &frame.Feed{}
		}
	}
	if w.book.Len() != len(now) {
		w.t.Fatalf("Len %d of %d peers", w.book.Len(), len(now))
	}
}

// wanted holds which blocks a peer is asked for against what P21.4 says of them.
func (w *watch) wanted(names []api.ID) {
	w.t.Helper()
	c := w.n.Chain()
	for _, name := range names {
		i, ok := c.Find(name)
		above := c.Get(i).Height - c.Get(c.Tip()).Height
		if !ok || c.Has(i) || above > 1024 {
			w.t.Fatalf("the block %d is asked for: %v, is there: %v, %d above the last that is followed", i, ok, c.Has(i), above)
		}
		w.high = max(w.high, above)
	}
}

// speaker is one who answers what a node says, well or not.
type speaker struct {
	id         int
	good, lazy bool // do they keep to the rules? do they answer the greeting alone?
	model      *honest.Model
	waits      []msg.Msg
}

// talks is a watch, and all who speak with the node.
type talks struct {
	*watch
	c   *crowd.Crowd
	d   *sample.Dice
	who []*speaker
}

// do lets something happen: what goes out waits at those to whom it goes.
func (w *talks) do(e node.Event) {
	w.t.Helper()
	for _, o := range w.watch.do(e) {
		if o.Msg.Kind == msg.Version {
			s := &speaker{id: o.Peer, good: w.d.Below(3) == 0, lazy: w.d.Below(6) == 0}
			s.model = honest.New(uint64(1<<40+w.d.Next()), w.c.Way()...)
			w.who = append(w.who, s)
		}
		for _, s := range w.who {
			if s.id == o.Peer {
				s.waits = append(s.waits, o.Msg)
			}
		}
	}
	w.who = slices.DeleteFunc(w.who, func(s *speaker) bool { return w.feeds[s.id] == nil && w.d.Below(4) > 0 }) // some speak on
}

// hand lets somebody say messages.
func (w *talks) hand(id int, list ...msg.Msg) {
	w.t.Helper()
	for _, b := range w.c.Pieces(crowd.Laid(list...)) {
		w.do(node.Event{Kind: node.Data, Peer: id, Data: b})
	}
}

// answer lets somebody answer the first message that waits.
func (w *talks) answer(s *speaker) {
	w.t.Helper()
	if len(s.waits) == 0 {
		return
	}
	m := s.waits[0]
	s.waits = s.waits[1:]
	list := s.model.Hear(m)
	if !s.good && s.lazy && m.Kind != msg.Version {
		return
	}
	if !s.good {
		list = w.c.Spoiled(list, m)
	}
	w.hand(s.id, list...)
}

// tick lets time go on; mostly those who keep to the rules have answered ahead of it.
func (w *talks) tick() {
	w.t.Helper()
	for again := w.d.Below(5) > 0; again; {
		again = false
		for _, s := range slices.Clone(w.who) {
			for s.good && len(s.waits) > 0 {
				w.answer(s)
				again = true
			}
		}
	}
	many := w.d.Below(12)
	if w.d.Below(25) == 0 {
		many = []int{100, 400, 5000, 1 << 20, -1, 1<<20 + 1}[w.d.Below(6)]
	}
	w.do(node.Event{Kind: node.Tick, N: many})
}

// turn lets anything happen.
func (w *talks) turn() {
	w.t.Helper()
	if len(w.who) == 0 {
		w.do(node.Event{Kind: node.Connect, Addr: w.d.Below(40)})
		return
	}
	s := w.who[w.d.Below(len(w.who))]
	switch k := w.d.Below(100); {
	case k < 6:
		w.do(node.Event{Kind: node.Connect, Addr: w.d.Below(40)})
	case k < 7:
		w.do(node.Event{Kind: node.Leave, Peer: s.id})
	case k < 8:
		w.do(node.Event{Kind: node.Draw, Draw: uint64(w.d.Next())})
	case k < 15:
		w.tick()
	case k < 16:
		w.do(node.Event{Kind: w.d.Below(9) - 2, Peer: []int{-1, 0, s.id + 50}[w.d.Below(3)], Addr: 5, N: 1 << 30, Data: crowd.Laid(w.c.Chatter())})
	case k < 25 && !s.good:
		w.hand(s.id, w.c.Chatter())
	case k < 26 && !s.good && w.d.Below(4) == 0:
		w.do(node.Event{Kind: node.Data, Peer: s.id, Data: w.d.Text(30)})
	default:
		w.answer(s)
	}
}

// P21.4: whatever happens, what a node says may be said.
func TestNodeAmongAny(t *testing.T) {
	d := sample.Dice(210)
	said := map[int]int{}
	gone := 0
	for range 100 {
		c := crowd.New(&d)
		w := &talks{watch: newWatch(t, c.Rules), c: c, d: &d}
		for range 500 {
			w.turn()
		}
		for kind, n := range w.said {
			said[kind] += n
		}
		gone += w.gone
	}
	for kind := msg.Version; kind <= msg.Pong; kind++ {
		if said[kind] < 20 {
			t.Errorf("the kind %d was said %d times", kind, said[kind])
		}
	}
	if gone < 1000 {
		t.Errorf("%d are gone", gone)
	}
}

// P21.4: one who doesn't answer keeps the lowest blocks back: others are asked for blocks as far as the window goes, and no further.
func TestWindow(t *testing.T) {
	r := honest.Rules(1)
	r.Spacing = 1
	blocks := honest.Chain(r, 1100, 1)
	w := newWatch(t, r)
	w.do(node.Event{Kind: node.Connect, Addr: 1})
	m := msg.Msg{Kind: msg.Headers}
	for _, b := range blocks[1:33] {
		m.Heads = append(m.Heads, b.Header)
	}
	w.do(node.Event{Kind: node.Data, Peer: 1, Data: crowd.Laid(version, verack, m)})
	model := honest.New(1<<40, blocks...)
	outs := w.do(node.Event{Kind: node.Connect, Addr: 2})
	serve := func() {
		t.Helper()
		for len(outs) > 0 {
			o := outs[0]
			outs = outs[1:]
			if o.Peer == 2 {
				outs = append(outs, w.do(node.Event{Kind: node.Data, Peer: 2, Data: crowd.Laid(model.Hear(o.Msg)...)})...)
			}
		}
	}
	serve()
	c := w.n.Chain()
	if c.Tip() != 0 || w.high != 1024 || c.Bodies() != 1+1024-16 || w.n.Flights(2) != 0 || w.n.Flights(1) != 16 {
		t.Fatalf("%d blocks are there, %d above is asked for", c.Bodies(), w.high)
	}
	outs = w.do(node.Event{Kind: node.Tick, N: 20})
	serve()
	if w.feeds[1] != nil || c.Get(c.Tip()).Height != 1100 {
		t.Errorf("%d is followed", c.Get(c.Tip()).Height)
	}
}
