package node

import (
	"slices"
	"testing"

	"tallystick/api"
	"tallystick/crowd"
	"tallystick/honest"
	"tallystick/msg"
	"tallystick/sample"
	"tallystick/tx"
)

// served is a node that follows a chain of so many blocks, and a peer who has greeted, beside the one who served them.
func served(t *testing.T, many int) (*Node, int, []api.Block) {
	t.Helper()
	r := honest.Rules(0)
	blocks := honest.Chain(r, many, 1)
	n := fresh(t, r)
	serve(t, n, 1, blocks...)
	follows(t, n, blocks[many])
	return n, greet(t, n, 2), blocks
}

// told is a node that knows the headers of so many blocks, and is told so by peers, of whom the first ones are asked for these blocks.
func told(t *testing.T, many, peers int) (*Node, []api.Block) {
	t.Helper()
	r := honest.Rules(0)
	blocks := honest.Chain(r, many, 1)
	n := fresh(t, r)
	for i := range peers {
		id := greet(t, n, i)
		for at := 1; at <= many; at += 30 { // fewer than may be, so that nobody is asked for more
			n.Step(says(id, heads(blocks[at:min(at+30, many+1)]...)))
		}
	}
	return n, blocks
}

// blocksOf are blocks that go to a peer.
func blocksOf(id int, blocks ...api.Block) []Out {
	var outs []Out
	for _, b := range blocks {
		outs = append(outs, to(id, block(b))...)
	}
	return outs
}

// P20.5: behind the first of the names that lies on the way that is followed, at most 32.
func TestGiveHeads(t *testing.T) {
	n, id, blocks := served(t, 70)
	all := ids(blocks...)
	for _, from := range []int{0, 1, 30, 37, 38, 39, 68, 69, 70} {
		want := heads(blocks[from+1 : min(from+33, 71)]...)
		does(t, "one name", n, says(id, getHeads(all[from])), to(id, want)...)
		does(t, "others around it", n, says(id, getHeads(api.ID{1}, all[from], all[70], all[0])), to(id, want)...)
		for _, stop := range []int{0, from, from + 1, from + 20, from + 31, from + 32, from + 33} {
			if stop > 70 {
				continue
			}
			ask := getHeads(all[from])
			ask.Stop = all[stop]
			does(t, "up to one", n, says(id, ask), to(id, heads(blocks[from+1:max(min(stop, from+32), from)+1]...))...)
		}
	}
	does(t, "no name", n, says(id, getHeads()), to(id, heads(blocks[1:33]...))...)
	does(t, "names that aren't there", n, says(id, getHeads(api.ID{1}, api.ID{2})), to(id, heads(blocks[1:33]...))...)
	scores(t, n, id, 0)
}

// P20.5: headers that aren't followed aren't answered, and don't count as names.
func TestGiveHeadsOfTheWay(t *testing.T) {
	n, id, blocks := served(t, 20)
	side := crowd.Behind(n.Chain().Rules(), blocks, 12, 20, 2)
	all, other := ids(blocks...), ids(side...)
	hears(t, "a better way", n, says(id, heads(side[13:]...)))
	does(t, "names of it", n, says(id, getHeads(other[32], other[20], all[15], all[5])), to(id, heads(blocks[16:]...))...)
	does(t, "names of it, and no other", n, says(id, getHeads(other[32], other[13])), to(id, heads(blocks[1:]...))...)
	ask := getHeads(all[10])
	ask.Stop = other[14]
	does(t, "up to one of it", n, says(id, ask), to(id, heads(blocks[11:]...))...)
	for _, b := range side[13:22] {
		n.Step(says(id, block(b)))
	}
	follows(t, n, side[21])
	does(t, "names of it, when it is followed", n, says(id, getHeads(all[18], other[14])), to(id, heads(side[15:22]...))...)
	does(t, "names of where they part", n, says(id, getHeads(all[13], all[12])), to(id, heads(side[13:22]...))...)
}

// P20.5: blocks in the order of their names, and what there isn't at the end.
func TestGiveBlocks(t *testing.T) {
	n, id, blocks := served(t, 40)
	all := ids(blocks...)
	x, y := api.ID{1}, api.ID{2}
	does(t, "no name", n, says(id, getData()))
	does(t, "the genesis", n, says(id, getData(all[0])), blocksOf(id, blocks[0])...)
	does(t, "some, one twice", n, says(id, getData(all[5], all[40], all[5], all[1])), blocksOf(id, blocks[5], blocks[40], blocks[5], blocks[1])...)
	does(t, "some that aren't there", n, says(id, getData(x, all[5], y, all[2], x)), slices.Concat(blocksOf(id, blocks[5], blocks[2]), to(id, notFound(x, y, x)))...)
	does(t, "none that is there", n, says(id, getData(x)), to(id, notFound(x))...)
	does(t, "as many as may be", n, says(id, getData(all[3:19]...)), blocksOf(id, blocks[3:19]...)...)
	does(t, "as many as may be, and others", n, says(id, getData(append([]api.ID{y}, all[3:19]...)...)), slices.Concat(blocksOf(id, blocks[3:19]...), to(id, notFound(y)))...)
	does(t, "more than may be", n, says(id, getData(all[3:22]...)), slices.Concat(blocksOf(id, blocks[3:19]...), to(id, notFound(all[19:22]...)))...)
	does(t, "each time", n, says(id, getData(all[3:19]...), getData(all[4:20]...)), slices.Concat(blocksOf(id, blocks[3:19]...), blocksOf(id, blocks[4:20]...))...)
	scores(t, n, id, 0)
}

// P20.5: only blocks of the way that is followed.
func TestGiveBlocksOfTheWay(t *testing.T) {
	n, id, blocks := served(t, 20)
	side := crowd.Behind(n.Chain().Rules(), blocks, 12, 10, 2)
	all, other := ids(blocks...), ids(side...)
	hears(t, "a better way", n, says(id, heads(side[13:]...)))
	does(t, "one whose block isn't there", n, says(id, getData(other[13], all[13])), slices.Concat(blocksOf(id, blocks[13]), to(id, notFound(other[13])))...)
	n.Step(says(id, blockList(side[13:20]...)...))
	follows(t, n, blocks[20])
	does(t, "one whose block is there", n, says(id, getData(other[13], other[12])), slices.Concat(blocksOf(id, side[12]), to(id, notFound(other[13])))...)
	n.Step(says(id, blockList(side[20:]...)...))
	follows(t, n, side[22])
	does(t, "one that isn't followed any more", n, says(id, getData(all[13], other[13], all[12])), slices.Concat(blocksOf(id, side[13], side[12]), to(id, notFound(all[13])))...)
}

// blockList is messages of blocks.
func blockList(blocks ...api.Block) []msg.Msg {
	var list []msg.Msg
	for _, b := range blocks {
		list = append(list, block(b))
	}
	return list
}

// P20.5: a name that isn't in the tree is a reason to ask for headers.
func TestInv(t *testing.T) {
	n, id, blocks := served(t, 5)
	all := ids(blocks...)
	x := api.ID{1}
	ask := asks(blocks, 4)
	does(t, "no name", n, says(id, inv()))
	does(t, "names that are there", n, says(id, inv(all...)))
	for _, names := range [][]api.ID{{x}, {x, all[1]}, {all[1], x}, {all[1], all[2], x, all[3], api.ID{2}}} {
		does(t, "a name that isn't", n, says(id, inv(names...)), to(id, ask)...)
		does(t, "it is asked", n, says(id, inv(names...)))
		does(t, "no headers", n, says(id, empty))
	}
	more := crowd.Behind(n.Chain().Rules(), blocks, 5, 3, 1)
	hears(t, "headers without blocks", n, says(id, heads(more[6:]...)))
	does(t, "their names", n, says(id, inv(ids(more...)...)))
	scores(t, n, id, 0)
}

// P20.5: what isn't found nobody is asked for any more, and who hasn't it is asked for nothing, till it tells of headers again.
func TestNotFound(t *testing.T) {
	n, blocks := told(t, 40, 2)
	all := ids(blocks...)
	flights(t, n, 1, 16)
	flights(t, n, 2, 16)
	does(t, "three that aren't found", n, says(1, notFound(all[3], api.ID{1}, all[20], all[4], all[40], all[16], all[0])))
	flights(t, n, 1, 13)
	flights(t, n, 2, 16)
	does(t, "two that come", n, says(2, block(blocks[17]), block(blocks[18])), to(2, getData(all[3], all[4]))...)
	does(t, "one that comes", n, says(1, block(blocks[1])), to(2, inv(all[1]))...)
	flights(t, n, 1, 12)
	does(t, "a name", n, says(1, inv(api.ID{1})), to(1, asks(blocks, 39))...)
	does(t, "headers", n, says(1, heads(blocks[40])), to(1, getData(all[16], all[33], all[34], all[35]))...)
	flights(t, n, 1, 16)
	scores(t, n, 1, 0)
}

// P20.5: whoever is asked for what isn't found; the others' blocks they are asked for still.
func TestNotFoundOfOthers(t *testing.T) {
	n, blocks := told(t, 40, 3)
	all := ids(blocks...)
	does(t, "what another one is asked for", n, says(3, notFound(all[1:17]...)))
	flights(t, n, 1, 16)
	flights(t, n, 2, 16)
	flights(t, n, 3, 8)
	does(t, "what it is asked for itself", n, says(3, notFound(all[33:]...)))
	flights(t, n, 3, 0)
	size(t, n, 32)
	does(t, "the others leave", n, Event{Kind: Leave, Peer: 1})
	does(t, "the others leave", n, Event{Kind: Leave, Peer: 2})
	does(t, "headers", n, says(3, heads(blocks[40])), to(3, getData(all[1:17]...))...)
}

// P20.6: who has more than what is followed is asked for what isn't there, 16 at a time, one behind the other.
func TestAskBlocks(t *testing.T) {
	r := honest.Rules(0)
	blocks := honest.Chain(r, 40, 1)
	all := ids(blocks...)
	n := fresh(t, r)
	for i := range 4 {
		greet(t, n, i)
	}
	does(t, "one who has a few", n, says(3, heads(blocks[1:6]...)), to(3, getData(all[1:6]...))...)
	does(t, "one who has more", n, says(1, heads(blocks[1:31]...)), to(1, getData(all[6:22]...))...)
	does(t, "one who has all", n, says(4, heads(blocks[1:31]...), heads(blocks[31:]...)), to(4, getData(all[22:38]...))...)
	does(t, "one who came ahead of that one", n, says(2, heads(blocks[1:31]...), heads(blocks[31:]...)), to(2, getData(all[38:]...))...)
	for id, many := range map[int]int{1: 16, 2: 3, 3: 5, 4: 16} {
		flights(t, n, id, many)
	}
	size(t, n, 40)
	does(t, "two leave", n, Event{Kind: Leave, Peer: 4}, to(2, getData(all[22:35]...))...)
	does(t, "two leave", n, Event{Kind: Leave, Peer: 1})
	does(t, "one comes to an end", n, says(2, blockList(blocks[38:]...)...), to(2, getData(all[6:9]...))...)
	does(t, "and another one", n, says(3, block(blocks[1])), to(2, inv(all[1]))...)
	does(t, "it has no more", n, says(3, blockList(blocks[2:6]...)...), slices.Concat(to(2, inv(all[2])), to(2, inv(all[3])), to(2, inv(all[4])), to(2, inv(all[5])))...)
	flights(t, n, 3, 0)
	does(t, "it tells of more", n, says(3, heads(blocks[6:31]...)), to(3, getData(all[9:22]...))...)
	flights(t, n, 3, 13)
}

// P20.6: nobody is asked whose best has no more work than what is followed, or who told of none.
func TestNoMoreWork(t *testing.T) {
	n, id, blocks := served(t, 20)
	r := n.Chain().Rules()
	short, even, long := crowd.Behind(r, blocks, 5, 10, 2), crowd.Behind(r, blocks, 5, 15, 3), crowd.Behind(r, blocks, 5, 16, 4)
	does(t, "a way with less work", n, says(id, heads(short[6:]...)))
	does(t, "one with as much", n, says(id, heads(even[6:]...)))
	does(t, "one with more", n, says(id, heads(long[6:]...)), to(id, getData(ids(long[6:]...)...))...)
	come(t, n, 3)
	does(t, "one who told of none", n, says(3, version, verack), to(3, verack, asks(long, 20))...)
	scores(t, n, 3, 0)
}

// P20.6: a block for which it isn't asked is passed over, whatever it is.
func TestBlockPassedOver(t *testing.T) {
	n, blocks := told(t, 20, 2)
	all := ids(blocks...)
	wrong := blocks[3]
	wrong.Txs = wrong.Txs[:0]
	for _, b := range []api.Block{blocks[1], blocks[16], wrong, blocks[0], {}, crowd.Behind(n.Chain().Rules(), blocks, 20, 1, 1)[21]} {
		does(t, "a block of another one", n, says(2, block(b)))
	}
	scores(t, n, 2, 0)
	flights(t, n, 1, 16)
	flights(t, n, 2, 4)
	does(t, "its own", n, says(2, block(blocks[17])))
	does(t, "its own, twice", n, says(2, block(blocks[17]), block(blocks[18]), block(blocks[18])))
	flights(t, n, 2, 2)
	scores(t, n, 2, 0)
	does(t, "the first one", n, says(1, block(blocks[1])), to(2, inv(all[1]))...)
	does(t, "it once more", n, says(1, block(blocks[1])))
	flights(t, n, 1, 15)
	scores(t, n, 1, 0)
}

// P20.6: a block that isn't right is blamed by 100, and others are asked for it, unless it can't be right at all.
func TestWrongBlock(t *testing.T) {
	n, blocks := told(t, 20, 2)
	all := ids(blocks...)
	wrong := blocks[3]
	wrong.Txs = append(slices.Clone(wrong.Txs), sample.Made(5, 50))
	does(t, "other transactions", n, says(1, block(wrong)), to(2, getData(all[1:13]...))...)
	scores(t, n, 1, -1)
	banned(t, n, 0, true)
	for i, x := range crowd.Wrongs() {
		r := honest.Rules(0)
		way := crowd.Behind(r, honest.Chain(r, 5, 1), 5, 10, 2, x)
		n := fresh(t, r)
		one, two := greet(t, n, 1), greet(t, n, 2)
		n.Step(says(one, heads(way[1:]...)))
		n.Step(says(two, heads(way[1:]...)))
		n.Step(says(one, blockList(way[1:6]...)...))
		follows(t, n, way[5])
		outs := n.Step(says(one, block(way[6])))
		if len(outs) != 0 {
			t.Errorf("nobody has anything else: %+v", outs)
		}
		at, _ := n.Chain().Find(ids(way[6])[0])
		if !n.Chain().Get(at).Failed || !n.Chain().Get(at+9).Failed {
			t.Error("it hasn't failed")
		}
		scores(t, n, two, 0)
		banned(t, n, 1, i == 0) // the other one can only be told behind what is ahead of it
		if i == 0 {
			scores(t, n, one, -1)
			continue
		}
		flights(t, n, one, 9)
		does(t, "those behind it", n, says(one, blockList(way[7:]...)...)) // whose headers have failed
		scores(t, n, one, 0)
		flights(t, n, one, 0)
		if n.Chain().Bodies() != 7 {
			t.Errorf("Bodies %d", n.Chain().Bodies())
		}
	}
}

// P20.6: each time another block is the last one, all others that have greeted are told.
func TestTell(t *testing.T) {
	r := honest.Rules(0)
	blocks := honest.Chain(r, 6, 1)
	all := ids(blocks...)
	n := fresh(t, r)
	greet(t, n, 0)
	greet(t, n, 1)
	come(t, n, 2) // they don't greet
	come(t, n, 3)
	does(t, "half a greeting", n, says(4, version), to(4, verack)...)
	greet(t, n, 4)
	does(t, "headers", n, says(2, heads(blocks[1:]...)), to(2, getData(all[1:]...))...)
	does(t, "a block", n, says(2, block(blocks[1])), slices.Concat(to(1, inv(all[1])), to(5, inv(all[1])))...)
	does(t, "one that isn't ready", n, says(2, block(blocks[4])))
	does(t, "two blocks, and what is asked", n, says(2, block(blocks[2]), getHeads(all[0]), block(blocks[3])), slices.Concat(
		to(1, inv(all[2])), to(5, inv(all[2])), to(2, heads(blocks[1:3]...)), to(1, inv(all[4])), to(5, inv(all[4])))...)
	does(t, "the rest, and something wrong", n, Event{Kind: Data, Peer: 2, Data: append(crowd.Laid(block(blocks[5]), block(blocks[6])), "junk"...)})
	scores(t, n, 2, -1)
	follows(t, n, blocks[4])
}

// P20.6: a way that isn't the best any more isn't told of, and another one is, by its last block alone.
func TestTellOfAnotherWay(t *testing.T) {
	n, id, blocks := served(t, 8)
	side := crowd.Behind(n.Chain().Rules(), blocks, 2, 9, 2)
	hears(t, "another way", n, says(id, heads(side[3:]...)))
	does(t, "all but three", n, says(id, blockList(side[4:9]...)...))
	follows(t, n, blocks[8])
	does(t, "the first one", n, says(id, block(side[3])))
	follows(t, n, blocks[8])
	does(t, "the last one", n, says(id, block(side[11])))
	does(t, "one that makes it the better one", n, says(id, block(side[9])), to(1, inv(ids(side[9])...))...)
	does(t, "and those behind it", n, says(id, block(side[10])), to(1, inv(ids(side[11])...))...)
	follows(t, n, side[11])
}

// slow is a node that knows 40 headers, of which one who is gone was asked for the first blocks too long ago: the limit is 40, the second peer is asked for 16 since the tick 20, and the third one for others.
func slow(t *testing.T) (*Node, []api.Block) {
	t.Helper()
	n, blocks := told(t, 40, 3)
	n.Step(says(2, blockList(blocks[17:33]...)...))
	n.Step(says(3, blockList(blocks[33:]...)...))
	does(t, "no headers", n, says(3, notFound()))
	n.Step(ticks(20))
	n.Step(says(3, heads(blocks[38:]...)))
	peers(t, n, 2, 3)
	flights(t, n, 2, 16)
	flights(t, n, 3, 0)
	more := crowd.Behind(n.Chain().Rules(), blocks, 40, 3, 1)
	n.Step(says(3, heads(more[41:]...)))
	flights(t, n, 3, 3)
	return n, blocks
}

// P20.6: what comes makes the limit smaller; what is only freed, or isn't right, doesn't.
func TestGotOrFree(t *testing.T) {
	for what, x := range map[string]struct {
		say  func(blocks []api.Block) msg.Msg
		left []int // at 40
	}{
		"a block that comes":     {func(b []api.Block) msg.Msg { return block(b[1]) }, []int{3}},
		"one that isn't found":   {func(b []api.Block) msg.Msg { return notFound(ids(b[1])...) }, []int{2, 3}},
		"one that isn't asked":   {func(b []api.Block) msg.Msg { return block(b[17]) }, []int{2, 3}},
		"nothing that is heard":  {func(b []api.Block) msg.Msg { return inv() }, []int{2, 3}},
		"one that isn't its own": {func(b []api.Block) msg.Msg { return block(api.Block{Header: b[1].Header}) }, []int{3}},
	} {
		n, blocks := slow(t)
		n.Step(says(2, x.say(blocks)))
		n.Step(ticks(19))
		if n.Score(3) != 0 || n.Now() != 39 {
			t.Errorf("%s: Peers %d at %d", what, n.Peers(), n.Now())
		}
		n.Step(ticks(1))
		if left := n.Peers(); !slices.Equal(left, x.left) {
			t.Errorf("%s: Peers %d, want %d", what, left, x.left)
		}
	}
}

// P20.3 and P20.6: no tick needs to pass for those who are late by a limit that became smaller.
func TestNoTickPasses(t *testing.T) {
	n, blocks := slow(t)
	n.Step(ticks(25))
	peers(t, n, 2, 3)
	n.Step(says(2, block(blocks[1])))
	peers(t, n, 2, 3)
	n.Step(ticks(0))
	if n.Score(2) != -1 || n.Now() != 45 {
		t.Errorf("Peers %d at %d", n.Peers(), n.Now())
	}
}

// P20.6: a block that failed while it was asked for isn't blamed.
func TestBlockThatFailed(t *testing.T) {
	r := honest.Rules(0)
	way := crowd.Behind(r, honest.Chain(r, 5, 1), 5, 40, 2, crowd.Wrongs()[0])
	n := fresh(t, r)
	one, two := greet(t, n, 1), greet(t, n, 2)
	n.Step(says(one, heads(way[1:31]...)))
	n.Step(says(two, heads(way[1:31]...)))
	flights(t, n, two, 14)
	n.Step(says(one, block(way[6])))
	scores(t, n, one, -1)
	does(t, "one behind what failed", n, says(two, block(way[17])))
	scores(t, n, two, 0)
	flights(t, n, two, 13)
	if at, _ := n.Chain().Find(ids(way[17])[0]); n.Chain().Has(at) || !n.Chain().Get(at).Failed {
		t.Error("it is there, or hasn't failed")
	}
}

// P20.6: nor does it make the limit smaller.
func TestBlockThatFailedIsOnlyFreed(t *testing.T) {
	r := honest.Rules(0)
	way := crowd.Behind(r, honest.Chain(r, 5, 1), 5, 40, 2, crowd.Wrongs()[0])
	n := fresh(t, r)
	for i := range 3 {
		greet(t, n, i)
	}
	n.Step(says(1, heads(way[1:17]...)))
	n.Step(ticks(20)) // the first one is late, and the limit 40
	n.Step(says(2, heads(way[1:31]...)))
	n.Step(says(3, heads(way[1:31]...)))
	n.Step(says(2, block(way[6])))
	peers(t, n, 3)
	flights(t, n, 3, 14)
	n.Step(says(3, block(way[17])))
	flights(t, n, 3, 13)
	n.Step(ticks(39))
	peers(t, n, 3)
	n.Step(ticks(1))
	peers(t, n)
}

// P20.6: blocks of all sizes go both ways.
func TestGreatBlocks(t *testing.T) {
	r := honest.Rules(0)
	var more []api.Tx
	var outs []int64
	for range 32 {
		outs = append(outs, 0)
	}
	prev := honest.First(r, 0, 0)
	for range 6 { // about 1300 bytes each
		x := api.Tx{Ins: []api.In{{Point: sample.At(prev, 0), Key: []byte{0}}}, Outs: sample.Outs(outs...)}
		x.Outs[0].Lock = prev.Outs[0].Lock
		more, prev = append(more, x), x
	}
	b, ok := honest.Grow(r, r.Genesis.Header, 1, 1, more...)
	if size := len(tx.Block(b)); !ok || size < 8000 || size > tx.MaxBlock {
		t.Fatalf("a block of %d bytes", size)
	}
	n := fresh(t, r)
	serve(t, n, 1, r.Genesis, b)
	follows(t, n, b)
	id := greet(t, n, 2)
	does(t, "it is asked for", n, says(id, getData(ids(b)...)), blocksOf(id, b)...)
}
