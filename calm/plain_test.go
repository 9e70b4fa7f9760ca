package calm

import (
	"slices"
	"testing"

	"tallystick/api"
	"tallystick/crowd"
	"tallystick/honest"
	"tallystick/msg"
	"tallystick/node"
	"tallystick/num"
	"tallystick/sample"
)

// plain is a world as the chapter tells of it, made of the layers below alone.
type plain struct {
	n   *node.Node
	who []*server // in the order in which they joined
}

// server is one who serves.
type server struct {
	id    int
	model *honest.Model
	waits []msg.Msg
}

func (p *plain) find(id int) *server {
	for _, s := range p.who {
		if s.id == id {
			return s
		}
	}
	return nil
}

func (p *plain) lay(outs []node.Out) []node.Out {
	for _, o := range outs {
		if s := p.find(o.Peer); s != nil {
			s.waits = append(s.waits, o.Msg)
		}
	}
	return outs
}

func (p *plain) do(e node.Event) []node.Out { return p.lay(p.n.Step(e)) }

func (p *plain) join(addr int, nonce uint64, blocks []api.Block) int {
	before := p.n.Peers()
	outs := p.n.Step(node.Event{Kind: node.Connect, Addr: addr})
	id := 0
	for _, now := range p.n.Peers() {
		if !slices.Contains(before, now) {
			id = now
			p.who = append(p.who, &server{id: id, model: honest.New(nonce, blocks...)})
		}
	}
	p.lay(outs)
	return id
}

func (p *plain) waits(id int) int {
	if s := p.find(id); s != nil {
		return len(s.waits)
	}
	return 0
}

func (p *plain) answer(id, most int) int {
	done := 0
	for p.waits(id) > 0 && done < most {
		s := p.find(id)
		m := s.waits[0]
		s.waits = slices.Delete(s.waits, 0, 1)
		list := s.model.Hear(m)
		if len(list) > 0 {
			p.do(node.Event{Kind: node.Data, Peer: id, Data: crowd.Laid(list...)})
		}
		done++
	}
	return done
}

func (p *plain) settle(most int) int {
	done := 0
	for {
		before := done
		for _, s := range p.who {
			if done < most {
				done += p.answer(s.id, 1)
			}
		}
		if done == before {
			return done
		}
	}
}

// pair is a world, and the plain one to which the same happens.
type pair struct {
	t *testing.T
	w *World
	p *plain
	c *crowd.Crowd
	d *sample.Dice
}

func newPair(t *testing.T, d *sample.Dice) *pair {
	c := crowd.New(d)
	n, e := node.New(c.Rules)
	if e != api.OK {
		t.Fatal(e)
	}
	return &pair{t, fresh(t, c.Rules), &plain{n: n}, c, d}
}

// somebody is a peer's number, at times a wrong one.
func (x *pair) somebody() int {
	list := append(x.w.Peers(), -1, 0, 1, 2, 1000)
	return list[x.d.Below(len(list))]
}

func (x *pair) most() int {
	return []int{-5, 0, 1, 1, 1, 2, 3, 5, 9, 40, 1 << 20}[x.d.Below(11)]
}

// event is anything that may happen; whoever serves speaks for themselves alone, mostly.
func (x *pair) event() node.Event {
	id := x.somebody()
	switch x.d.Below(8) {
	case 0, 1:
		return node.Event{Kind: node.Connect, Addr: x.d.Below(30)}
	case 2:
		return node.Event{Kind: node.Tick, N: x.d.Below(25)}
	case 3:
		return node.Event{Kind: node.Draw, Draw: uint64(x.d.Next())}
	case 4:
		return node.Event{Kind: node.Leave, Peer: id}
	case 5:
		return node.Event{Kind: x.d.Below(8), Peer: id, Data: x.d.Text(10), N: -1}
	}
	if x.p.find(id) != nil && x.d.Below(10) > 0 {
		return node.Event{}
	}
	list := []msg.Msg{{Kind: msg.Version, Nonce: 1 << 50}, {Kind: msg.Verack}, x.c.Chatter(), {Kind: msg.Ping, Nonce: 9}}
	return node.Event{Kind: node.Data, Peer: id, Data: crowd.Laid(list[x.d.Below(3):]...)}
}

// turn lets something happen to both.
func (x *pair) turn() {
	x.t.Helper()
	var got, want int
	what := x.d.Below(30)
	switch {
	case what < 4:
		addr, nonce, way := x.d.Below(30), uint64(x.d.Next())<<20, x.c.Way()
		got, want = x.w.Join(addr, nonce, way...), x.p.join(addr, nonce, way)
	case what < 12:
		e := x.event()
		if a, b := x.w.Do(e), x.p.do(e); !sameOuts(a, b) {
			x.t.Fatalf("Do(%+v): %+v, want %+v", e, a, b)
		}
	case what < 13:
		e := x.event()
		if a, b := x.w.Step(e), x.p.n.Step(e); !sameOuts(a, b) {
			x.t.Fatalf("Step(%+v): %+v, want %+v", e, a, b)
		}
	case what < 25:
		id, most := x.somebody(), x.most()
		got, want = x.w.Answer(id, most), x.p.answer(id, most)
	case what < 28:
		most := x.most()
		got, want = x.w.Settle(most), x.p.settle(most)
	default:
		most := x.most()
		got, want = x.w.Round(most), x.p.settle(most)
		x.p.do(node.Event{Kind: node.Tick, N: 1})
	}
	if got != want {
		x.t.Fatalf("the call %d: %d, want %d", what, got, want)
	}
	x.compare()
}

// compare holds all that a world tells against the plain one.
func (x *pair) compare() {
	x.t.Helper()
	w, n := x.w, x.p.n
	if !slices.Equal(w.Peers(), n.Peers()) || w.Now() != n.Now() || w.Size() != n.Size() || w.Refused() != n.Refused() {
		x.t.Fatalf("Peers %d, Now %d, Size %d, Refused %d; want %d, %d, %d, %d", w.Peers(), w.Now(), w.Size(), w.Refused(), n.Peers(), n.Now(), n.Size(), n.Refused())
	}
	c, d := w.Chain(), n.Chain()
	if c.Len() != d.Len() || c.Tip() != d.Tip() || c.Bodies() != d.Bodies() || w.Work() != d.Get(d.Tip()).Work {
		x.t.Fatalf("Len %d, Tip %d, Bodies %d, Work %v; want %d, %d, %d", c.Len(), c.Tip(), c.Bodies(), w.Work(), d.Len(), d.Tip(), d.Bodies())
	}
	last := 1
	for _, s := range x.p.who {
		last = max(last, s.id)
	}
	for id := -1; id < last+3; id++ {
		if w.Waits(id) != x.p.waits(id) || w.Score(id) != n.Score(id) || w.Flights(id) != n.Flights(id) {
			x.t.Fatalf("of %d: Waits %d, Score %d, Flights %d; want %d, %d, %d", id, w.Waits(id), w.Score(id), w.Flights(id), x.p.waits(id), n.Score(id), n.Flights(id))
		}
	}
}

// P22.1, P22.2, P22.3: whatever happens, and is answered.
func TestAnyCalls(t *testing.T) {
	d := sample.Dice(22)
	more := 0
	for range 100 {
		x := newPair(t, &d)
		for range 200 {
			x.turn()
		}
		if num.Cmp(x.w.Work(), num.Of(2)) > 0 {
			more++
		}
	}
	if more < 50 {
		t.Errorf("of a hundred worlds %d follow more than a genesis", more)
	}
}
