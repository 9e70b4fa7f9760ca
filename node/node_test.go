package node

import (
	"math"
	"slices"
	"testing"

	"tallystick/api"
	"tallystick/chain"
	"tallystick/crowd"
	"tallystick/head"
	"tallystick/honest"
	"tallystick/msg"
	"tallystick/sample"
)

// numbers are of all kinds.
var numbers = []int{math.MinInt, math.MinInt + 1, -1 << 32, -17, -1, 0, 1, 2, 16, 1 << 14, 1 << 32, math.MaxInt - 1, math.MaxInt}

var (
	version = msg.Msg{Kind: msg.Version, Nonce: 1 << 50}
	verack  = msg.Msg{Kind: msg.Verack}
	empty   = msg.Msg{Kind: msg.Headers}
)

// fresh is a node to which nobody came.
func fresh(t *testing.T, r api.Rules) *Node {
	t.Helper()
	n, e := New(r)
	if e != api.OK || n == nil {
		t.Fatalf("New: %v", e)
	}
	return n
}

// does holds what goes out by an event against what should.
func does(t *testing.T, what string, n *Node, e Event, want ...Out) {
	t.Helper()
	if got := n.Step(e); !sameOuts(got, want) {
		t.Fatalf("%s: %+v, want %+v", what, got, want)
	}
}

// says is that a peer says messages.
func says(id int, list ...msg.Msg) Event {
	return Event{Kind: Data, Peer: id, Data: crowd.Laid(list...)}
}

// comes is that somebody at an address comes, ticks that ticks pass.
func comes(addr int) Event { return Event{Kind: Connect, Addr: addr} }

func ticks(n int) Event { return Event{Kind: Tick, N: n} }

// to is messages that go to a peer.
func to(id int, list ...msg.Msg) []Out {
	var outs []Out
	for _, m := range list {
		outs = append(outs, Out{id, m})
	}
	return outs
}

// ids are the names of blocks.
func ids(blocks ...api.Block) []api.ID {
	var list []api.ID
	for _, b := range blocks {
		list = append(list, head.ID(b.Header))
	}
	return list
}

// heads, getHeads, getData, inv, notFound, block: messages.
func heads(blocks ...api.Block) msg.Msg {
	m := msg.Msg{Kind: msg.Headers}
	for _, b := range blocks {
		m.Heads = append(m.Heads, b.Header)
	}
	return m
}

func getHeads(names ...api.ID) msg.Msg { return msg.Msg{Kind: msg.GetHeaders, Names: names} }

func getData(names ...api.ID) msg.Msg { return msg.Msg{Kind: msg.GetData, Names: names} }

func inv(names ...api.ID) msg.Msg { return msg.Msg{Kind: msg.Inv, Names: names} }

func notFound(names ...api.ID) msg.Msg { return msg.Msg{Kind: msg.NotFound, Names: names} }

func block(b api.Block) msg.Msg { return msg.Msg{Kind: msg.Block, Block: b} }

// come lets somebody come: their number.
func come(t *testing.T, n *Node, addr int) int {
	t.Helper()
	outs := n.Step(comes(addr))
	if len(outs) == 0 || outs[0].Msg.Kind != msg.Version {
		t.Fatalf("somebody comes: %+v", outs)
	}
	return outs[0].Peer
}

// greet lets somebody come and greet, and say that they have no headers: their number.
func greet(t *testing.T, n *Node, addr int) int {
	t.Helper()
	id := come(t, n, addr)
	outs := n.Step(says(id, version, verack))
	if len(outs) != 2 || outs[0].Msg.Kind != msg.Verack || outs[1].Msg.Kind != msg.GetHeaders {
		t.Fatalf("a greeting: %+v", outs)
	}
	does(t, "no headers", n, says(id, empty))
	return id
}

// serve lets somebody come who serves blocks, and answer whatever is said: their number.
func serve(t *testing.T, n *Node, addr int, blocks ...api.Block) int {
	t.Helper()
	model := honest.New(1<<51, blocks...)
	outs := n.Step(comes(addr))
	id := outs[0].Peer
	for len(outs) > 0 {
		o := outs[0]
		outs = outs[1:]
		if list := model.Hear(o.Msg); o.Peer == id && len(list) > 0 {
			outs = append(outs, n.Step(says(id, list...))...)
		}
	}
	return id
}

// follows holds which block is the last that is followed.
func follows(t *testing.T, n *Node, b api.Block) {
	t.Helper()
	c := n.Chain()
	if got := c.Get(c.Tip()); got.Header != b.Header {
		t.Errorf("what is followed: the height %d", got.Height)
	}
}

// scores holds somebody's score, and whether they are a peer, against what should be.
func scores(t *testing.T, n *Node, id, want int) {
	t.Helper()
	if n.Score(id) != want || slices.Contains(n.Peers(), id) != (want >= 0) {
		t.Errorf("of %d: Score %d, Peers %d; want %d", id, n.Score(id), n.Peers(), want)
	}
}

func flights(t *testing.T, n *Node, id, want int) {
	t.Helper()
	if n.Flights(id) != want {
		t.Errorf("Flights of %d: %d, want %d", id, n.Flights(id), want)
	}
}

func size(t *testing.T, n *Node, want int) {
	t.Helper()
	if n.Size() != want {
		t.Errorf("Size %d, want %d", n.Size(), want)
	}
}

func peers(t *testing.T, n *Node, want ...int) {
	t.Helper()
	if !slices.Equal(n.Peers(), want) {
		t.Errorf("Peers %d, want %d", n.Peers(), want)
	}
}

func TestLimits(t *testing.T) {
	if MaxPeers != 8 || BanTime != 1000 || HeadWait != 60 || MaxTicks != 1048576 {
		t.Errorf("MaxPeers, BanTime, HeadWait, MaxTicks: %d, %d, %d, %d", MaxPeers, BanTime, HeadWait, MaxTicks)
	}
	if Connect != 1 || Leave != 2 || Data != 3 || Tick != 4 || Draw != 5 {
		t.Errorf("the kinds: %d, %d, %d, %d, %d", Connect, Leave, Data, Tick, Draw)
	}
}

// P20.1: layer 14's error, and none.
func TestNewOfWrongRules(t *testing.T) {
	for what, spoil := range map[api.Errno]func(r *api.Rules){
		api.ErrBits:   func(r *api.Rules) { r.Limit = 0x203fffff },
		api.ErrRange:  func(r *api.Rules) { r.Work = 1001 },
		api.ErrShape:  func(r *api.Rules) { r.Genesis.Txs = nil },
		api.ErrRoot:   func(r *api.Rules) { r.Genesis.Root[5]++ },
		api.ErrAmount: func(r *api.Rules) { r.Subsidy = 49 },
	} {
		r := honest.Rules(0)
		spoil(&r)
		if _, e := chain.New(r); e != what {
			t.Fatalf("layer 14: %v, want %v", e, what)
		}
		if n, e := New(r); n != nil || e != what {
			t.Errorf("New: %v, want %v", e, what)
		}
	}
}

// P20.1
func TestNew(t *testing.T) {
	r := honest.Rules(1000)
	n := fresh(t, r)
	for _, i := range numbers {
		if n.Score(i) != -1 || n.Flights(i) != 0 || n.Banned(i) {
			t.Errorf("of %d: Score %d, Flights %d, Banned %v", i, n.Score(i), n.Flights(i), n.Banned(i))
		}
	}
	if n.Now() != 0 || len(n.Peers()) != 0 || n.Refused() != 0 {
		t.Errorf("Now %d, Peers %d, Refused %d", n.Now(), n.Peers(), n.Refused())
	}
	size(t, n, 0)
	follows(t, n, r.Genesis)
	if n.Chain() != n.Chain() || n.Chain().Len() != 1 || n.Chain().Rules().Work != 1000 {
		t.Error("the chain isn't the node's own")
	}
}

// The document's example: it is followed, and nothing is kept beside it.
func TestExample(t *testing.T) {
	r := honest.Rules(4)
	blocks := honest.Chain(r, 3, 1)
	n := fresh(t, r)
	id := serve(t, n, 5, blocks...)
	follows(t, n, blocks[3])
	scores(t, n, id, 0)
	flights(t, n, id, 0)
	size(t, n, 0)
	if n.Chain().Bodies() != 4 || n.Chain().Len() != 4 {
		t.Errorf("Bodies %d, Len %d", n.Chain().Bodies(), n.Chain().Len())
	}
}

// P20.1: chains of any length are followed, however much work the rules want, if they have it.
func TestServed(t *testing.T) {
	for _, work := range []int{0, 1, 2, 31, 32, 33, 34, 63, 64, 65, 66, 97, 98, 150} {
		for _, many := range []int{0, 1, 30, 31, 32, 33, 63, 64, 65, 96, 97, 150} {
			r := honest.Rules(work)
			blocks := honest.Chain(r, many, 1)
			n := fresh(t, r)
			id := serve(t, n, 5, blocks...)
			if many+1 < work {
				follows(t, n, r.Genesis)
			} else {
				follows(t, n, blocks[many])
			}
			scores(t, n, id, 0)
			size(t, n, 0)
		}
	}
}

// P1: kinds that there aren't, and numbers of all kinds.
func TestAnyNumbers(t *testing.T) {
	r := honest.Rules(0)
	blocks := honest.Chain(r, 5, 1)
	n := fresh(t, r)
	id := greet(t, n, 1)
	does(t, "headers", n, says(id, heads(blocks[1:]...)), to(id, getData(ids(blocks[1:]...)...))...)
	for _, i := range numbers {
		if i < 1 || i > 5 {
			does(t, "a kind that there isn't", n, Event{Kind: i, Peer: id, Addr: 1, N: 5, Data: crowd.Laid(verack), Draw: 9})
		}
		if i != id {
			does(t, "one who isn't there leaves", n, Event{Kind: Leave, Peer: i})
			does(t, "one who isn't there says something", n, Event{Kind: Data, Peer: i, Data: []byte("junk")})
		}
		if i < 0 || i > 1<<20 {
			does(t, "ticks that can't be", n, ticks(i))
		}
	}
	peers(t, n, id)
	flights(t, n, id, 5)
	scores(t, n, id, 0)
	if n.Now() != 0 {
		t.Errorf("Now %d", n.Now())
	}
	for _, i := range numbers {
		m := fresh(t, r)
		does(t, "an address of any kind", m, comes(i), to(1, msg.Msg{Kind: msg.Version, Nonce: 1})...)
		does(t, "none of a frame's bytes", m, Event{Kind: Data, Peer: 1, Data: []byte("junk")})
		if !m.Banned(i) || m.Banned(i/2+7) {
			t.Errorf("Banned of %d: %v, of %d: %v", i, m.Banned(i), i/2+7, m.Banned(i/2+7))
		}
		does(t, "it comes again", m, comes(i))
		if m.Refused() != 1 {
			t.Errorf("Refused %d", m.Refused())
		}
	}
}

// P1: any bytes.
func TestAnyBytes(t *testing.T) {
	d := sample.Dice(6)
	r := honest.Rules(0)
	blocks := honest.Chain(r, 40, 1)
	for range 1500 {
		n := fresh(t, r)
		id := come(t, n, 1)
		row := crowd.Laid(version, verack, heads(blocks[1:33]...), inv(d.ID()), getHeads(d.ID()), getData(d.IDs(20)...), block(blocks[1]), notFound(d.ID()))
		for range d.Below(3) {
			row[d.Below(len(row))] ^= 1 << d.Below(8)
		}
		row = row[:d.Below(len(row)+1)]
		for len(row) > 0 {
			k := 1 + d.Below(len(row))
			for _, o := range n.Step(Event{Kind: Data, Peer: id, Data: row[:k]}) {
				if _, e := msg.Encode(o.Msg); e != api.OK || o.Peer != id {
					t.Fatalf("%+v can't be said: %v", o, e)
				}
			}
			row = row[k:]
		}
		if n.Size() > 16408+16+1 {
			t.Fatalf("Size %d", n.Size())
		}
	}
}

// P2: what is handed in is neither changed nor kept, and what is answered is new.
func TestApart(t *testing.T) {
	r := honest.Rules(0)
	blocks := honest.Chain(r, 20, 1)
	n := fresh(t, r)
	for _, x := range r.Genesis.Txs {
		sample.ChangeTx(x)
	}
	one, two, three := serve(t, n, 1, blocks[:20]...), greet(t, n, 2), greet(t, n, 3)
	all := ids(blocks...)
	e := says(one, inv(all[20]))
	whole := string(e.Data)
	for k := range e.Data {
		piece := slices.Clone(e.Data[k : k+1])
		outs := n.Step(Event{Kind: Data, Peer: one, Data: piece})
		sample.Change(piece, 0xee)
		for _, o := range outs {
			sample.Change(o.Msg.Names, api.ID{1})
		}
	}
	if string(e.Data) != whole {
		t.Error("what was handed in is changed")
	}
	does(t, "the last header", n, says(one, heads(blocks[20])), to(one, getData(all[20]))...)
	outs := n.Step(says(one, block(blocks[20])))
	if len(outs) != 2 || outs[0].Peer != two || outs[1].Peer != three {
		t.Fatalf("the last block: %+v", outs)
	}
	sample.Change(outs[0].Msg.Names, api.ID{2})
	if !slices.Equal(outs[1].Msg.Names, all[20:]) {
		t.Error("two messages share memory")
	}
	ask := says(two, getData(all[0], all[5], all[5], api.ID{9}), getHeads(all[10]))
	want := slices.Concat(to(two, block(blocks[0]), block(blocks[5]), block(blocks[5]), notFound(api.ID{9})), to(two, heads(blocks[11:]...)))
	want[0].Msg.Block = honest.Rules(0).Genesis
	for range 2 {
		outs = n.Step(ask)
		if !sameOuts(outs, want) {
			t.Fatalf("what two asks for: %+v", outs)
		}
		for _, x := range slices.Concat(outs[0].Msg.Block.Txs, outs[1].Msg.Block.Txs) {
			sample.ChangeTx(x)
		}
		if !sameMsg(outs[2].Msg, want[2].Msg) {
			t.Error("two blocks share memory")
		}
		sample.Change(outs[4].Msg.Heads, api.Header{})
		sample.Change(outs, Out{})
	}
	list := n.Peers()
	sample.Change(list, 77)
	peers(t, n, one, two, three)
}
