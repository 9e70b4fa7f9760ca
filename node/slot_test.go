package node

import (
	"math"
	"slices"
	"testing"

	"tallystick/crowd"
	"tallystick/honest"
	"tallystick/msg"
)

// hello is what goes out first to who comes.
func hello(id int, nonce uint64, height uint32) []Out {
	return to(id, msg.Msg{Kind: msg.Version, Nonce: nonce, Height: height})
}

// early is a message ahead of the greeting, which is blamed by 10.
func early(id int) Event { return says(id, verack) }

// junk is what nobody says, which is blamed by 100.
func junk(id int) Event { return Event{Kind: Data, Peer: id, Data: []byte("junk")} }

func banned(t *testing.T, n *Node, addr int, want bool) {
	t.Helper()
	if n.Banned(addr) != want {
		t.Errorf("Banned of %d at %d: %v", addr, n.Now(), n.Banned(addr))
	}
}

// P20.2: numbers from 1 on; the nonce is the drawn number and that one, and turns over.
func TestConnect(t *testing.T) {
	n := fresh(t, honest.Rules(0))
	peers(t, n)
	does(t, "the first", n, comes(5), hello(1, 1, 0)...)
	does(t, "the second, of the same address", n, comes(5), hello(2, 2, 0)...)
	does(t, "a number is drawn", n, Event{Kind: Draw, Draw: 1000})
	does(t, "the third", n, comes(-1), hello(3, 1003, 0)...)
	does(t, "a number is drawn", n, Event{Kind: Draw, Draw: math.MaxUint64 - 4})
	does(t, "the fourth", n, comes(0), hello(4, math.MaxUint64, 0)...)
	does(t, "the fifth", n, comes(0), hello(5, 0, 0)...)
	does(t, "0 is drawn", n, Event{Kind: Draw})
	does(t, "the sixth", n, comes(0), hello(6, 6, 0)...)
	does(t, "one leaves", n, Event{Kind: Leave, Peer: 6})
	does(t, "the seventh", n, comes(0), hello(7, 7, 0)...)
	peers(t, n, 1, 2, 3, 4, 5, 7)
	for _, id := range n.Peers() {
		scores(t, n, id, 0)
	}
	scores(t, n, 6, -1)
	size(t, n, 0)
}

// P20.2: the height is that of the last block that is followed, not of the best header.
func TestHeightOfTheFirstMessage(t *testing.T) {
	r := honest.Rules(0)
	blocks := honest.Chain(r, 40, 1)
	n := fresh(t, r)
	id := serve(t, n, 1, blocks[:38]...)
	does(t, "one who comes", n, comes(2), hello(2, 2, 37)...)
	does(t, "more headers", n, says(id, heads(blocks[38:]...)), to(id, getData(ids(blocks[38:]...)...))...)
	does(t, "another one who comes", n, comes(2), hello(3, 3, 37)...)
	does(t, "another block", n, says(id, block(blocks[38])))
	does(t, "a third one who comes", n, comes(2), hello(4, 4, 38)...)
}

// P20.2: of eight who behaved well nobody goes.
func TestFull(t *testing.T) {
	n := fresh(t, honest.Rules(0))
	for i := range 8 {
		does(t, "one who comes", n, comes(i), hello(i+1, uint64(i+1), 0)...)
	}
	does(t, "the ninth", n, comes(9))
	does(t, "the tenth", n, comes(10))
	peers(t, n, 1, 2, 3, 4, 5, 6, 7, 8)
	does(t, "one leaves", n, Event{Kind: Leave, Peer: 3})
	peers(t, n, 1, 2, 4, 5, 6, 7, 8)
	does(t, "another one who comes", n, comes(9), hello(9, 9, 0)...)
	does(t, "the tenth once more", n, comes(10))
	peers(t, n, 1, 2, 4, 5, 6, 7, 8, 9)
	if n.Refused() != 0 {
		t.Errorf("Refused %d", n.Refused())
	}
}

// P20.2: who behaved worst goes, of several the one that came first.
func TestRoomIsMade(t *testing.T) {
	n := fresh(t, honest.Rules(0))
	for i := range 8 {
		come(t, n, i)
	}
	for id, blames := range map[int]int{3: 1, 5: 2, 6: 2, 8: 1} {
		for range blames {
			does(t, "a message ahead of the greeting", n, early(id))
		}
		scores(t, n, id, 10*blames)
	}
	for i, gone := range []int{5, 6, 3, 8} {
		does(t, "one who comes", n, comes(9), hello(9+i, uint64(9+i), 0)...)
		scores(t, n, gone, -1)
		if len(n.Peers()) != 8 {
			t.Errorf("Peers %d", n.Peers())
		}
	}
	does(t, "one for whom there is no room", n, comes(9))
	peers(t, n, 1, 2, 4, 7, 9, 10, 11, 12)
	for i := range 10 {
		banned(t, n, i, false)
	}
}

// P20.2: nobody goes as long as there is room.
func TestNobodyGoesWithoutNeed(t *testing.T) {
	n := fresh(t, honest.Rules(0))
	for i := range 7 {
		come(t, n, i)
		does(t, "a message ahead of the greeting", n, early(i+1))
	}
	come(t, n, 9)
	peers(t, n, 1, 2, 3, 4, 5, 6, 7, 8)
}

// P20.2: what one was asked for who is removed others are asked for, whatever removed them.
func TestWhoIsRemovedIsAskedForNothing(t *testing.T) {
	r := honest.Rules(0)
	blocks := honest.Chain(r, 20, 1)
	all := ids(blocks...)
	for what, remove := range map[string]Event{
		"room is made":           comes(50),
		"one leaves":             {Kind: Leave, Peer: 1},
		"one is banned":          junk(1),
		"one is late with a lot": ticks(20),
	} {
		n := fresh(t, r)
		for i := range 8 {
			greet(t, n, i)
		}
		does(t, "a verack too many", n, says(1, verack))
		does(t, "headers of one", n, says(1, heads(blocks[1:]...)), to(1, getData(all[1:17]...))...)
		does(t, "headers of another one", n, says(2, heads(blocks[1:]...)), to(2, getData(all[17:]...))...)
		does(t, "four blocks", n, says(2, block(blocks[17]), block(blocks[18]), block(blocks[19]), block(blocks[20])))
		flights(t, n, 1, 16)
		size(t, n, 16)
		outs := n.Step(remove)
		if len(outs) == 0 || !sameOuts(outs[len(outs)-1:], to(2, getData(all[1:17]...))) {
			t.Fatalf("%s: %+v", what, outs)
		}
		flights(t, n, 1, 0)
		flights(t, n, 2, 16)
		scores(t, n, 1, -1)
		want := 16
		if what == "one is banned" {
			want++
		}
		size(t, n, want)
		does(t, what+": one who isn't there says a block", n, says(1, block(blocks[1])))
		if n.Chain().Bodies() != 5 {
			t.Errorf("Bodies %d", n.Chain().Bodies())
		}
	}
}

// P20.2: whose address is banned is refused, even if there is room, and nothing else changes.
func TestRefused(t *testing.T) {
	n := fresh(t, honest.Rules(0))
	come(t, n, 5)
	does(t, "junk", n, junk(1))
	banned(t, n, 5, true)
	peers(t, n)
	for i := range 3 {
		does(t, "one who is refused", n, comes(5))
		if n.Refused() != i+1 {
			t.Errorf("Refused %d, want %d", n.Refused(), i+1)
		}
	}
	for i := range 8 {
		does(t, "one who isn't", n, comes(6), hello(2+i, uint64(2+i), 0)...)
	}
	does(t, "a message ahead of the greeting", n, early(4))
	does(t, "one who is refused", n, comes(5))
	peers(t, n, 2, 3, 4, 5, 6, 7, 8, 9)
	scores(t, n, 4, 10)
	size(t, n, 1)
	if n.Refused() != 4 {
		t.Errorf("Refused %d", n.Refused())
	}
}

// P20.3: for 1000 ticks, of the address alone.
func TestBanTime(t *testing.T) {
	n := fresh(t, honest.Rules(0))
	does(t, "ticks", n, ticks(77))
	come(t, n, 5)
	come(t, n, 5)
	does(t, "junk", n, junk(1))
	banned(t, n, 5, true)
	scores(t, n, 1, -1)
	scores(t, n, 2, 0) // of the same address, but it behaves well
	does(t, "one leaves", n, Event{Kind: Leave, Peer: 2})
	size(t, n, 1)
	does(t, "ticks", n, ticks(999))
	banned(t, n, 5, true)
	size(t, n, 1)
	does(t, "one who is refused", n, comes(5))
	does(t, "a tick", n, ticks(1))
	banned(t, n, 5, false)
	size(t, n, 0)
	does(t, "one who isn't", n, comes(5), hello(3, 3, 0)...)
}

// P20.3: the later one of two bans counts, and of more than 32 addresses one isn't kept.
func TestManyBans(t *testing.T) {
	n := fresh(t, honest.Rules(0))
	for i := range 32 {
		does(t, "a tick", n, ticks(1))
		does(t, "junk", n, junk(come(t, n, i)))
	}
	size(t, n, 32)
	banned(t, n, 0, true)
	does(t, "a tick", n, ticks(1))
	does(t, "junk", n, junk(come(t, n, 99)))
	size(t, n, 32)
	banned(t, n, 0, false)
	banned(t, n, 1, true)
	banned(t, n, 99, true)
}

// P20.3: the greeting, in pieces and at once, and the first question.
func TestGreeting(t *testing.T) {
	r := honest.Rules(0)
	all := ids(r.Genesis)
	ping := msg.Msg{Kind: msg.Ping, Nonce: 8}
	pong := msg.Msg{Kind: msg.Pong, Nonce: 8}
	n := fresh(t, r)
	come(t, n, 1)
	does(t, "their version", n, says(1, version), to(1, verack)...)
	does(t, "their verack", n, says(1, verack), to(1, getHeads(all...))...)
	does(t, "a ping", n, says(1, ping), to(1, pong)...)
	come(t, n, 2)
	row := crowd.Laid(version, verack)
	for k := range row {
		var want []Out
		if k == len(crowd.Laid(version))-1 {
			want = to(2, verack)
		}
		if k == len(row)-1 {
			want = to(2, getHeads(all...))
		}
		does(t, "a byte", n, Event{Kind: Data, Peer: 2, Data: row[k : k+1]}, want...)
		if k < len(row)-1 && len(want) == 0 && n.Size() == 0 {
			t.Error("the bytes that are kept don't count")
		}
	}
	come(t, n, 3)
	does(t, "all at once", n, says(3, version, verack, ping, getHeads(all...), ping), to(3, verack, pong, pong, getHeads(all...), empty)...)
	for _, id := range n.Peers() {
		scores(t, n, id, 0)
	}
	size(t, n, 0)
}

// P20.3: who says the node's own nonce is the node itself.
func TestOneself(t *testing.T) {
	n := fresh(t, honest.Rules(0))
	does(t, "a number is drawn", n, Event{Kind: Draw, Draw: 500})
	come(t, n, 5)
	does(t, "a number is drawn", n, Event{Kind: Draw, Draw: 600})
	come(t, n, 6)
	does(t, "another nonce", n, says(1, msg.Msg{Kind: msg.Version, Nonce: 601}), to(1, verack)...)
	does(t, "the own one", n, says(2, msg.Msg{Kind: msg.Version, Nonce: 602}))
	banned(t, n, 5, false)
	banned(t, n, 6, true)
	peers(t, n, 1)
}

// P20.3: what is said ahead of the greeting is blamed, and a little at a time, till it is too much.
func TestBlamesTogether(t *testing.T) {
	n := fresh(t, honest.Rules(0))
	come(t, n, 5)
	for i := range 9 {
		does(t, "a message ahead of the greeting", n, early(1))
		scores(t, n, 1, 10*(i+1))
	}
	does(t, "one more", n, early(1))
	scores(t, n, 1, -1)
	banned(t, n, 5, true)
}

// P20.3: behind what makes them Bad nothing is heard any more; what went out ahead of it went out.
func TestBad(t *testing.T) {
	r := honest.Rules(0)
	blocks := honest.Chain(r, 5, 1)
	all := ids(blocks...)
	ping, pong := msg.Msg{Kind: msg.Ping, Nonce: 8}, msg.Msg{Kind: msg.Pong, Nonce: 8}
	wrong := heads(blocks[1:]...)
	wrong.Heads[1], wrong.Heads[2] = wrong.Heads[2], wrong.Heads[1]
	n := fresh(t, r)
	come(t, n, 1)
	list := []msg.Msg{version, verack, getHeads(all[0]), ping, wrong, getHeads(all[0]), heads(blocks[1:]...)}
	does(t, "one who is Bad in the end", n, says(1, list...), to(1, verack, pong, getHeads(all[0]), empty)...)
	scores(t, n, 1, -1)
	banned(t, n, 1, true)
	if n.Chain().Len() != 1 {
		t.Errorf("%d headers", n.Chain().Len())
	}
	id := greet(t, n, 2)
	e := says(id, ping, getHeads(all[0]))
	e.Data = append(e.Data, "junk"...)
	does(t, "one who is Bad by the bytes", n, e, to(id, pong)...)
	scores(t, n, id, -1)
	banned(t, n, 2, true)
}

// P20.3: time goes on by 0 to 2^20 ticks.
func TestTick(t *testing.T) {
	n := fresh(t, honest.Rules(0))
	now := 0
	for _, many := range []int{0, 1, 5, 1 << 20, 1<<20 - 1, 0, 1 << 20} {
		does(t, "ticks", n, ticks(many))
		now += many
		if n.Now() != now {
			t.Errorf("Now %d, want %d", n.Now(), now)
		}
	}
	for _, many := range []int{-1, -5, math.MinInt, 1<<20 + 1, 1 << 40, math.MaxInt} {
		does(t, "ticks that can't be", n, ticks(many))
		if n.Now() != now {
			t.Errorf("Now %d behind %d", n.Now(), many)
		}
	}
	come(t, n, 1)
	does(t, "ticks that can't be", n, ticks(1<<20+1))
	peers(t, n, 1)
}

// P20.3: whoever doesn't greet in 60 ticks, or answers no ping in 60, is removed, but not banned.
func TestTicksOfPeers(t *testing.T) {
	n := fresh(t, honest.Rules(0))
	does(t, "ticks", n, ticks(5))
	silent, greeted := come(t, n, 1), greet(t, n, 2)
	does(t, "ticks", n, ticks(59))
	peers(t, n, silent, greeted)
	does(t, "a tick", n, ticks(1))
	peers(t, n, greeted)
	banned(t, n, 1, false)
	other := greet(t, n, 3) // at 65
	does(t, "ticks", n, ticks(59))
	ping := func(nonce int) msg.Msg { return msg.Msg{Kind: msg.Ping, Nonce: uint64(nonce)} }
	does(t, "a tick", n, ticks(1), to(greeted, ping(greeted+125))...)
	does(t, "ticks", n, ticks(59))
	peers(t, n, greeted, other)
	does(t, "a tick", n, ticks(1), to(other, ping(other+185))...)
	peers(t, n, other)
	does(t, "a pong", n, says(other, msg.Msg{Kind: msg.Pong, Nonce: uint64(other + 185)}))
	does(t, "ticks", n, ticks(119))
	third := greet(t, n, 3) // at 304
	does(t, "a tick", n, ticks(1), to(other, ping(other+305))...)
	peers(t, n, other, third)
	does(t, "a pong", n, says(other, msg.Msg{Kind: msg.Pong, Nonce: uint64(other + 305)}))
	does(t, "ticks", n, ticks(120), slices.Concat(to(other, ping(other+425)), to(third, ping(third+425)))...)
	does(t, "too many ticks", n, ticks(1<<20))
	peers(t, n)
	size(t, n, 0)
}

// P20.3: who was asked for headers 60 ticks ago is removed, if none came.
func TestHeadWait(t *testing.T) {
	r := honest.Rules(0)
	blocks := honest.Chain(r, 40, 1)
	all := ids(blocks...)
	n := fresh(t, r)
	does(t, "ticks", n, ticks(7))
	for i := range 3 {
		come(t, n, i)
		does(t, "a greeting", n, says(i+1, version, verack), to(i+1, verack, getHeads(all[0]))...)
	}
	does(t, "ticks", n, ticks(59))
	does(t, "no headers of one", n, says(1, empty))
	does(t, "headers of another one, whose parent isn't there", n, says(2, heads(blocks[39])))
	scores(t, n, 2, 20)
	does(t, "a tick", n, ticks(1))
	peers(t, n, 1, 2) // the third is gone
	banned(t, n, 2, false)
	does(t, "ticks", n, ticks(40))
	does(t, "names", n, says(1, inv(all[40])), to(1, getHeads(all[0]))...) // at 107
	does(t, "ticks", n, ticks(19))
	does(t, "a tick", n, ticks(1), slices.Concat(to(1, msg.Msg{Kind: msg.Ping, Nonce: 128}), to(2, msg.Msg{Kind: msg.Ping, Nonce: 129}))...)
	does(t, "pongs", n, says(1, msg.Msg{Kind: msg.Pong, Nonce: 128}))
	does(t, "pongs", n, says(2, msg.Msg{Kind: msg.Pong, Nonce: 129}))
	does(t, "names, while it is asked", n, says(1, inv(all[40])))
	does(t, "ticks", n, ticks(39)) // at 166
	peers(t, n, 1, 2)
	does(t, "a tick", n, ticks(1)) // at 167
	peers(t, n, 2)
}

// P20.3: a message with as many headers as may be lets the time begin anew.
func TestHeadWaitAnew(t *testing.T) {
	r := honest.Rules(1000)
	blocks := honest.Chain(r, 64, 1)
	all := ids(blocks...)
	n := fresh(t, r)
	come(t, n, 1)
	does(t, "a greeting", n, says(1, version, verack), to(1, verack, getHeads(all[0]))...)
	does(t, "ticks", n, ticks(50))
	does(t, "many headers", n, says(1, heads(blocks[1:33]...)), to(1, getHeads(all[32], all[0]))...)
	does(t, "ticks", n, ticks(59))
	peers(t, n, 1)
	does(t, "many headers", n, says(1, heads(blocks[33:]...)), to(1, getHeads(all[64], all[0]))...)
	does(t, "ticks", n, ticks(59), to(1, msg.Msg{Kind: msg.Ping, Nonce: 169})...)
	does(t, "a pong", n, says(1, msg.Msg{Kind: msg.Pong, Nonce: 169}))
	peers(t, n, 1)
	does(t, "a tick", n, ticks(1))
	peers(t, n)
}

// P20.3: of those who keep others waiting as many are removed as layer 18's Late finds, whose limit is doubled by each.
func TestLate(t *testing.T) {
	r := honest.Rules(0)
	blocks := honest.Chain(r, 64, 1)
	for many, left := range map[int][]int{19: {1, 2, 3, 4, 5}, 20: {2, 3, 4, 5}, 39: {2, 3, 4, 5}, 40: {3, 4, 5}, 79: {3, 4, 5}, 80: {4, 5}, 119: {4, 5}} {
		n := fresh(t, r)
		for i := range 5 {
			greet(t, n, i)
		}
		for i := range 4 {
			n.Step(says(i+1, heads(blocks[1:31]...), heads(blocks[31:61]...), heads(blocks[61:]...)))
			flights(t, n, i+1, 16)
		}
		does(t, "ticks", n, ticks(many))
		peers(t, n, left...)
		for i := range 5 {
			banned(t, n, i, false)
		}
	}
}
