package calm

import (
	"math"
	"reflect"
	"slices"
	"testing"

	"tallystick/api"
	"tallystick/crowd"
	"tallystick/head"
	"tallystick/honest"
	"tallystick/msg"
	"tallystick/node"
	"tallystick/num"
	"tallystick/own"
	"tallystick/sample"
)

// numbers are of all kinds.
var numbers = []int{math.MinInt, -1 << 32, -17, -1, 0, 1, 2, 16, 1 << 14, 1 << 32, math.MaxInt}

var (
	version = msg.Msg{Kind: msg.Version, Nonce: 1 << 50}
	verack  = msg.Msg{Kind: msg.Verack}
)

// fresh is a world to which nobody came.
func fresh(t *testing.T, r api.Rules) *World {
	t.Helper()
	w, e := New(r)
	if e != api.OK || w == nil {
		t.Fatalf("New: %v", e)
	}
	return w
}

// join lets somebody come who serves, and is taken: their number.
func join(t *testing.T, w *World, addr int, blocks ...api.Block) int {
	t.Helper()
	id := w.Join(addr, 1<<40+uint64(addr), blocks...)
	if id == 0 || w.Score(id) != 0 {
		t.Fatalf("Join: %d", id)
	}
	return id
}

func waits(t *testing.T, what string, w *World, id, want int) {
	t.Helper()
	if got := w.Waits(id); got != want {
		t.Fatalf("%s: at %d wait %d, want %d", what, id, got, want)
	}
}

func answers(t *testing.T, what string, w *World, id, most, want int) {
	t.Helper()
	if got := w.Answer(id, most); got != want {
		t.Fatalf("%s: Answer of %d, at most %d: %d, want %d", what, id, most, got, want)
	}
}

// follows holds up to which height blocks are followed, each with the work of two tries, against what should be.
func follows(t *testing.T, what string, w *World, height int) {
	t.Helper()
	c := w.Chain()
	if got := c.Get(c.Tip()).Height; got != height || w.Work() != num.Of(uint64(2*height+2)) {
		t.Fatalf("%s: %d is followed, Work %v; want %d", what, got, w.Work(), height)
	}
}

// says is that a peer says messages.
func says(id int, list ...msg.Msg) node.Event {
	return node.Event{Kind: node.Data, Peer: id, Data: crowd.Laid(list...)}
}

// heads is a message of headers.
func heads(blocks ...api.Block) msg.Msg {
	m := msg.Msg{Kind: msg.Headers}
	for _, b := range blocks {
		m.Heads = append(m.Heads, b.Header)
	}
	return m
}

// sameOuts tells whether the same goes out, a list of none being as good as no list.
func sameOuts(a, b []node.Out) bool {
	return slices.EqualFunc(a, b, func(a, b node.Out) bool {
		return a.Peer == b.Peer && slices.Equal(crowd.Laid(a.Msg), crowd.Laid(b.Msg))
	})
}

// P22.1: New's errors are the node's, and beside them there is no world.
func TestNew(t *testing.T) {
	for what, turn := range map[string]func(r *api.Rules){
		"bits":        func(r *api.Rules) { r.Limit = 0 },
		"other bits":  func(r *api.Rules) { r.Genesis.Bits = 0x203fffff },
		"every":       func(r *api.Rules) { r.Every = -1 },
		"spacing":     func(r *api.Rules) { r.Spacing = 0 },
		"subsidy":     func(r *api.Rules) { r.Subsidy = -1 },
		"work":        func(r *api.Rules) { r.Work = 1001 },
		"no genesis":  func(r *api.Rules) { r.Genesis.Txs = nil },
		"root":        func(r *api.Rules) { r.Genesis.Root = api.ID{1} },
		"amount":      func(r *api.Rules) { r.Subsidy = 49 },
		"all of them": func(r *api.Rules) { *r = api.Rules{} },
	} {
		r := honest.Rules(3)
		turn(&r)
		_, want := node.New(r)
		if w, e := New(r); w != nil || e != want || e == api.OK {
			t.Errorf("%s: %v, want %v", what, e, want)
		}
	}
	w := fresh(t, honest.Rules(3))
	follows(t, "New", w, 0)
	if len(w.Peers()) != 0 || w.Settle(100) != 0 || w.Now() != 0 {
		t.Error("somebody is there")
	}
}

// P22.4, and the chapter's example.
func TestExample(t *testing.T) {
	r := honest.Rules(4)
	w := fresh(t, r)
	id := join(t, w, 1, honest.Chain(r, 3, 1)...)
	if n := w.Settle(1000); n == 0 || w.Work() != num.Of(8) {
		t.Errorf("%d were answered, Work %v", n, w.Work())
	}
	waits(t, "all is answered", w, id, 0)
	follows(t, "the example", w, 3)
}

// P22.2: what goes out to one who serves waits, message by message.
func TestAnswer(t *testing.T) {
	r := honest.Rules(1)
	blocks := honest.Chain(r, 20, 1)
	w := fresh(t, r)
	id := join(t, w, 1, blocks...)
	if id != 1 {
		t.Fatalf("Join: %d", id)
	}
	waits(t, "a version", w, id, 1)
	for _, most := range []int{math.MinInt, -1, 0} {
		answers(t, "none", w, id, most, 0)
	}
	answers(t, "a version", w, id, 1, 1)
	waits(t, "a verack, a getheaders", w, id, 2)
	answers(t, "a verack", w, id, 1, 1)
	waits(t, "a getheaders", w, id, 1)
	answers(t, "a getheaders", w, id, 1, 1)
	waits(t, "a getdata", w, id, 1)
	if w.Chain().Len() != 21 || w.Flights(id) != 16 {
		t.Fatalf("%d headers, %d blocks are asked for", w.Chain().Len(), w.Flights(id))
	}
	answers(t, "sixteen blocks at once, and what comes meanwhile", w, id, 10, 2)
	waits(t, "all is answered", w, id, 0)
	follows(t, "all", w, 20)
	answers(t, "nothing waits", w, id, 10, 0)
}

// P22.2: the blocks of one answer come as one: what is asked behind them is asked once.
func TestOneData(t *testing.T) {
	r := honest.Rules(1)
	w := fresh(t, r)
	id := join(t, w, 1, honest.Chain(r, 32, 1)...)
	answers(t, "the greeting, and two times headers", w, id, 4, 4)
	waits(t, "sixteen blocks", w, id, 1)
	answers(t, "sixteen blocks", w, id, 1, 1)
	follows(t, "sixteen blocks", w, 16)
	waits(t, "sixteen more", w, id, 1)
	if w.Flights(id) != 16 {
		t.Errorf("%d blocks are asked for", w.Flights(id))
	}
}

// P22.2: those that come meanwhile count, too.
func TestMeanwhile(t *testing.T) {
	r := honest.Rules(90)
	blocks := honest.Chain(r, 150, 1)
	whole := fresh(t, r)
	many := whole.Answer(join(t, whole, 1, blocks...), 1<<40)
	follows(t, "all", whole, 150)
	for most := range many + 3 {
		w := fresh(t, r)
		id := join(t, w, 1, blocks...)
		want := min(most, many)
		answers(t, "some", w, id, most, want)
		if most < many && w.Waits(id) == 0 {
			t.Fatalf("behind %d of %d nothing waits", most, many)
		}
		answers(t, "the others", w, id, 1<<40, many-want)
		follows(t, "all", w, 150)
	}
}

// P22.2: of those who don't serve nothing waits.
func TestOthers(t *testing.T) {
	w := fresh(t, honest.Rules(1))
	outs := w.Do(node.Event{Kind: node.Connect, Addr: 1})
	if len(outs) != 1 || outs[0].Peer != 1 || outs[0].Msg.Kind != msg.Version {
		t.Fatalf("Do: %+v", outs)
	}
	id := join(t, w, 2, honest.Chain(honest.Rules(1), 3, 1)...)
	for _, other := range append([]int{3}, numbers...) {
		if other != id {
			waits(t, "another one", w, other, 0)
			answers(t, "another one", w, other, 10, 0)
		}
	}
	waits(t, "one who serves", w, id, 1)
	w.Settle(100)
	follows(t, "one who serves", w, 3)
}

// P22.1: what Do says waits, what Step says by itself doesn't.
func TestDoAndStep(t *testing.T) {
	r := honest.Rules(1)
	w := fresh(t, r)
	id := join(t, w, 1, honest.Chain(r, 3, 1)...)
	w.Settle(100)
	ping := says(id, msg.Msg{Kind: msg.Ping, Nonce: 5})
	for i := range 3 {
		if outs := w.Do(ping); len(outs) != 1 || outs[0].Msg.Kind != msg.Pong || outs[0].Msg.Nonce != 5 {
			t.Fatalf("Do: %+v", outs)
		}
		waits(t, "Do", w, id, i+1)
		if outs := w.Step(ping); len(outs) != 1 || outs[0].Msg.Kind != msg.Pong {
			t.Fatalf("Step: %+v", outs)
		}
		waits(t, "Step", w, id, i+1)
	}
	answers(t, "pongs", w, id, 100, 3)
	w.Do(node.Event{Kind: node.Tick, N: 120})
	waits(t, "a ping", w, id, 1)
	answers(t, "a ping", w, id, 100, 1)
	w.Do(node.Event{Kind: node.Tick, N: 119})
	waits(t, "no ping", w, id, 0)
	w.Step(node.Event{Kind: node.Tick, N: 1})
	waits(t, "a ping by Step", w, id, 0)
	w.Do(node.Event{Kind: node.Tick, N: 60})
	if w.Score(id) != -1 {
		t.Error("who didn't answer is a peer still")
	}
}

// P22.2: what waits is answered in its order.
func TestOrder(t *testing.T) {
	r := honest.Rules(1)
	blocks := honest.Chain(r, 9, 1)
	w := fresh(t, r)
	id := join(t, w, 1, blocks...)
	other := w.Do(node.Event{Kind: node.Connect, Addr: 2})[0].Peer
	w.Do(says(other, version, verack))
	w.Do(says(other, heads(blocks[1:5]...)))
	answers(t, "the greeting", w, id, 2, 2)
	for i, b := range blocks[1:4] {
		w.Do(says(other, msg.Msg{Kind: msg.Block, Block: b}))
		waits(t, "a getheaders, and invs", w, id, 2+i)
	}
	answers(t, "the getheaders", w, id, 1, 1)
	if w.Chain().Len() != 10 || w.Flights(id) != 5 {
		t.Fatalf("%d headers, %d blocks are asked for", w.Chain().Len(), w.Flights(id))
	}
	answers(t, "three invs", w, id, 3, 3)
	follows(t, "the getdata isn't answered", w, 3)
	answers(t, "the getdata", w, id, 1, 1)
	w.Do(says(other, msg.Msg{Kind: msg.Block, Block: blocks[4]}))
	follows(t, "all", w, 9)
}

// P22.1: who isn't taken has no number; a version isn't all that goes out when somebody is.
func TestJoin(t *testing.T) {
	r := honest.Rules(1)
	blocks := honest.Chain(r, 6, 1)
	w := fresh(t, r)
	w.Do(node.Event{Kind: node.Connect, Addr: 1})
	w.Do(says(1, version, verack, heads(blocks[1:]...)))
	if w.Flights(1) != 6 {
		t.Fatalf("%d blocks are asked for", w.Flights(1))
	}
	two := join(t, w, 2, blocks...)
	w.Settle(100)
	follows(t, "nobody answers", w, 0)
	for i := range 6 {
		join(t, w, 10+i)
	}
	if id := w.Join(3, 7, blocks...); id != 0 || len(w.Peers()) != 8 {
		t.Fatalf("one too many is taken: %d", id)
	}
	waits(t, "who wasn't taken", w, 9, 0)
	w.Do(says(1, msg.Msg{Kind: msg.Version}))
	id := w.Join(3, 7, blocks...)
	if id != 9 || w.Score(1) != -1 {
		t.Fatalf("who comes for the worst one: %d", id)
	}
	waits(t, "a version", w, 9, 1)
	waits(t, "blocks for which the worst one was asked", w, two, 1)
	answers(t, "blocks", w, two, 1, 1)
	follows(t, "all", w, 6)
	w.Do(node.Event{Kind: node.Data, Peer: id, Data: []byte("junk")})
	if id := w.Join(3, 7, blocks...); id != 0 || w.Refused() != 1 {
		t.Errorf("a banned one is taken: %d", id)
	}
}

// P22.1: the numbers go on, whoever came and left ahead.
func TestJoinBehindOthers(t *testing.T) {
	r := honest.Rules(1)
	blocks := honest.Chain(r, 3, 1)
	w := fresh(t, r)
	for i := range 20 {
		id := join(t, w, i, blocks...)
		if id != 2*i+1 {
			t.Fatalf("Join: %d, want %d", id, 2*i+1)
		}
		waits(t, "a version", w, id, 1)
		w.Do(node.Event{Kind: node.Leave, Peer: id})
		w.Step(node.Event{Kind: node.Connect, Addr: 50})
		w.Step(node.Event{Kind: node.Leave, Peer: id + 1})
	}
	join(t, w, 100, blocks...)
	w.Settle(1000)
	follows(t, "the last one", w, 3)
}

// P22.2: what waits at one who is a peer no more waits there still: their answers are nobody's.
func TestGone(t *testing.T) {
	r := honest.Rules(1)
	w := fresh(t, r)
	one := join(t, w, 1, honest.Chain(r, 3, 1)...)
	answers(t, "a version", w, one, 1, 1)
	w.Do(node.Event{Kind: node.Leave, Peer: one})
	two := join(t, w, 2, honest.Chain(r, 2, 2)...)
	waits(t, "one who left", w, one, 2)
	if n := w.Settle(3); n != 3 {
		t.Fatalf("Settle: %d", n)
	}
	waits(t, "one who left", w, one, 0)
	waits(t, "one who is there", w, two, 2)
	w.Settle(100)
	follows(t, "one who is there", w, 2)
	join(t, w, 3)
	waits(t, "one who left", w, one, 0)
	answers(t, "one who left", w, one, 5, 0)
}

// P22.3: one message of each, in the order in which they joined, again and again.
func TestSettle(t *testing.T) {
	r := honest.Rules(1)
	pong := func(w *World, id, many int) {
		for range many {
			w.Do(says(id, msg.Msg{Kind: msg.Ping}))
		}
	}
	for most := range 12 {
		w := fresh(t, r)
		var ids []int
		for i := range 3 {
			ids = append(ids, join(t, w, i))
		}
		w.Settle(1000)
		pong(w, ids[0], 2)
		pong(w, ids[1], 5)
		pong(w, ids[2], 3)
		rest := [][3]int{{2, 5, 3}, {1, 5, 3}, {1, 4, 3}, {1, 4, 2}, {0, 4, 2}, {0, 3, 2}, {0, 3, 1}, {0, 2, 1}, {0, 2, 0}, {0, 1, 0}, {0, 0, 0}, {0, 0, 0}}
		if n := w.Settle(most); n != min(most, 10) {
			t.Errorf("Settle, at most %d: %d", most, n)
		}
		for i, id := range ids {
			waits(t, "Settle", w, id, rest[most][i])
		}
	}
	w := fresh(t, r)
	one, two := join(t, w, 0), join(t, w, 1)
	for _, left := range []int{2, 1} { // each call begins at the first one
		if n := w.Settle(1); n != 1 {
			t.Errorf("Settle, at most one: %d", n)
		}
		waits(t, "the first one", w, one, left)
		waits(t, "the second one", w, two, 1)
	}
	for _, most := range []int{math.MinInt, -1, 0} {
		if n := w.Settle(most); n != 0 {
			t.Errorf("Settle, at most %d: %d", most, n)
		}
	}
}

// P22.3: a round settles, and a tick passes, whether all was answered or not.
func TestRound(t *testing.T) {
	r := honest.Rules(1)
	blocks := honest.Chain(r, 40, 1)
	a, b := fresh(t, r), fresh(t, r)
	join(t, a, 1, blocks...)
	join(t, b, 1, blocks...)
	for i, most := range []int{-1, 0, 1, 2, 1, 3, 100, 100, 5} {
		if got, want := a.Round(most), b.Settle(most); got != want || a.Now() != i+1 {
			t.Errorf("Round, at most %d: %d, want %d; Now %d", most, got, want, a.Now())
		}
		b.Do(node.Event{Kind: node.Tick, N: 1})
		waits(t, "Round", a, 1, b.Waits(1))
	}
	follows(t, "all", a, 40)
	for a.Now() < 120 {
		waits(t, "no ping yet", a, 1, 0)
		a.Round(0)
	}
	waits(t, "a ping, by a round", a, 1, 1)
	if n := a.Round(100); n != 1 || a.Score(1) != 0 {
		t.Errorf("it is answered: %d", n)
	}
}

// P22.1: Work is that of the last block that is followed, not of a header.
func TestWork(t *testing.T) {
	r := honest.Rules(1)
	blocks := honest.Chain(r, 5, 1)
	w := fresh(t, r)
	id := join(t, w, 1, blocks...)
	answers(t, "headers", w, id, 3, 3)
	if w.Chain().Best() != 5 || w.Work() != num.Of(2) {
		t.Errorf("Work %v", w.Work())
	}
	answers(t, "blocks", w, id, 1, 1)
	follows(t, "blocks", w, 5)
}

// P22.1: the node's calls are the world's, too.
func TestPromoted(t *testing.T) {
	r := honest.Rules(1)
	w := fresh(t, r)
	id := join(t, w, 5, honest.Chain(r, 3, 1)...)
	w.Settle(100)
	n := w.Node
	if w.Chain() != n.Chain() || w.Now() != 0 || !slices.Equal(w.Peers(), []int{id}) || w.Score(id) != 0 || w.Flights(id) != 0 || w.Banned(5) || w.Refused() != 0 || w.Size() != 0 {
		t.Error("a node's calls")
	}
}

// P22.1: the nonce is the Model's: one that is the node's own is blamed.
func TestNonce(t *testing.T) {
	r := honest.Rules(1)
	blocks := honest.Chain(r, 3, 1)
	for _, drawn := range []uint64{0, 5, math.MaxUint64} {
		for _, nonce := range []uint64{0, 1, 6, 7} {
			w := fresh(t, r)
			w.Do(node.Event{Kind: node.Draw, Draw: drawn})
			id := w.Join(9, nonce, blocks...)
			w.Settle(100)
			own := nonce == drawn+1
			if w.Banned(9) != own || (w.Score(id) == 0) == own {
				t.Errorf("the nonce %d, where %d was drawn: banned: %v", nonce, drawn, w.Banned(9))
			}
		}
	}
}

// copied are the same blocks, apart.
func copied(blocks []api.Block) []api.Block {
	list := slices.Clone(blocks)
	for i, b := range list {
		list[i].Txs = own.Txs(b.Txs)
	}
	return list
}

// P2: what is handed in is neither changed nor kept.
func TestHandedIn(t *testing.T) {
	r := honest.Rules(1)
	blocks := honest.Chain(r, 30, 1)
	handed := copied(blocks)
	w := fresh(t, r)
	join(t, w, 1, handed...)
	if !reflect.DeepEqual(handed, blocks) {
		t.Fatal("what was handed in has changed")
	}
	for _, b := range handed {
		sample.ChangeTx(b.Txs[0])
	}
	sample.Change(handed, api.Block{})
	w.Settle(100)
	follows(t, "all", w, 30)
}

// P2: what is answered isn't what waits.
func TestAnswered(t *testing.T) {
	r := honest.Rules(1)
	blocks := honest.Chain(r, 30, 1)
	side := crowd.Behind(r, blocks, 2, 40, 2)
	w := fresh(t, r)
	id := join(t, w, 1, blocks...)
	w.Settle(100)
	ask := []api.ID{head.ID(blocks[0].Header), {8}}
	var outs []node.Out
	for _, m := range []msg.Msg{{Kind: msg.GetData, Names: ask}, {Kind: msg.GetHeaders, Names: ask}, {Kind: msg.Inv, Names: ask}, heads(side[3:35]...)} {
		outs = append(outs, w.Do(says(id, m))...)
	}
	waiting := w.find(id).waits
	want := crowd.Laid(waiting...)
	kinds := map[int]bool{}
	for _, o := range outs {
		kinds[o.Msg.Kind] = true
		sample.Change(o.Msg.Names, api.ID{9})
		sample.Change(o.Msg.Heads, api.Header{Nonce: 9})
		for _, x := range o.Msg.Block.Txs {
			sample.ChangeTx(x)
		}
		sample.Change(o.Msg.Block.Txs, api.Tx{})
	}
	if len(waiting) != len(outs) || !slices.Equal(crowd.Laid(waiting...), want) {
		t.Errorf("what waits has changed: %+v", waiting)
	}
	for _, kind := range []int{msg.Block, msg.NotFound, msg.Headers, msg.GetHeaders, msg.GetData} {
		if !kinds[kind] {
			t.Errorf("no message of the kind %d went out", kind)
		}
	}
}

// What is kept of those who left is no more than what waits there.
func TestForgotten(t *testing.T) {
	r := honest.Rules(1)
	w := fresh(t, r)
	for i := range 100 {
		id := join(t, w, i)
		if i > 10 {
			w.Settle(100)
		}
		w.Do(node.Event{Kind: node.Leave, Peer: id})
	}
	if len(w.guests) > 2 {
		t.Errorf("%d are kept", len(w.guests))
	}
}

// P1: every call takes all arguments.
func TestAllNumbers(t *testing.T) {
	for _, a := range numbers {
		for _, b := range numbers {
			w := fresh(t, honest.Rules(1))
			id := w.Join(a, uint64(b), honest.Chain(honest.Rules(1), 2, 1)...)
			w.Answer(a, b)
			w.Waits(a)
			w.Do(node.Event{Kind: a, Addr: b, Peer: a, N: b})
			w.Settle(b)
			w.Round(a)
			if w.Settle(100); id != 1 {
				t.Errorf("Join(%d): %d", a, id)
			}
		}
	}
}

// Whoever serves nothing, or what isn't a chain, or can't be said, is one who serves, too.
func TestOddBlocks(t *testing.T) {
	r := honest.Rules(1)
	blocks := honest.Chain(r, 3, 1)
	long := honest.First(r, 1, 1)
	for range 300 {
		long.Ins = append(long.Ins, api.In{Key: make([]byte, 100)})
	}
	big, ok := honest.Grow(r, r.Genesis.Header, 1, 1, long)
	if !ok {
		t.Fatal("a block can't be grown")
	}
	for what, list := range map[string][]api.Block{
		"none": nil, "the genesis": blocks[:1], "without it": blocks[1:], "zero ones": {{}, {}},
		"twice": append(blocks[:3:3], blocks...), "turned": {blocks[3], blocks[2], blocks[1], blocks[0]}, "a long one": {blocks[0], big},
	} {
		w := fresh(t, r)
		id := join(t, w, 1, list...)
		if w.Settle(1000) == 1000 {
			t.Errorf("%s: for ever", what)
		}
		for range 30 {
			w.Round(1000)
		}
		if got := w.Chain().Get(w.Chain().Tip()).Height; got != 0 && what != "twice" && what != "without it" {
			t.Errorf("%s: %d is followed", what, got)
		}
		waits(t, what, w, id, 0)
	}
}
