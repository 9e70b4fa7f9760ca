package node

import (
	"crypto/sha256"
	"slices"
	"testing"

	"tallystick/api"
	"tallystick/crowd"
	"tallystick/head"
	"tallystick/honest"
	"tallystick/index"
	"tallystick/locate"
	"tallystick/msg"
	"tallystick/presync"
	"tallystick/sample"
)

// easy is the bits of honest.Rules.
const easy = 0x207fffff

// asks is the question for headers behind a height of a way.
func asks(blocks []api.Block, top int) msg.Msg {
	var names []api.ID
	for _, height := range locate.Heights(top) {
		names = append(names, head.ID(blocks[height].Header))
	}
	return getHeads(names...)
}

// hears holds what goes out when a peer says headers, but for questions for blocks, against what should.
func hears(t *testing.T, what string, n *Node, e Event, want ...Out) {
	t.Helper()
	got := slices.DeleteFunc(n.Step(e), func(o Out) bool { return o.Msg.Kind == msg.GetData })
	if !sameOuts(got, want) {
		t.Fatalf("%s: %+v, want %+v", what, got, want)
	}
}

// knows holds how many headers a node has against how many it should.
func knows(t *testing.T, n *Node, want int) {
	t.Helper()
	if got := n.Chain().Len(); got != want {
		t.Errorf("%d headers, want %d", got, want)
	}
}

// remined is a header with work behind it, as it is otherwise.
func remined(h api.Header) api.Header {
	h.Nonce = 0
	h, _ = head.Mine(h, easy, 1<<16)
	return h
}

// unproved is a header without work behind it, as it is otherwise.
func unproved(h api.Header) api.Header {
	for head.Proved(h, easy) == api.OK {
		h.Nonce++
	}
	return h
}

// row is so many headers behind one, of the bits and the times that are told.
func row(prev api.Header, many int, turn func(k int, h *api.Header)) msg.Msg {
	m := msg.Msg{Kind: msg.Headers}
	for k := range many {
		h := api.Header{Version: 9, Prev: head.ID(prev), Time: prev.Time + 10, Bits: easy}
		if turn != nil {
			turn(k, &h)
		}
		prev = remined(h)
		m.Heads = append(m.Heads, prev)
	}
	return m
}

// P20.4: of who told of none the question is for what is behind the parent of the best header.
func TestFirstQuestion(t *testing.T) {
	r := honest.Rules(0)
	blocks := honest.Chain(r, 30, 1)
	for _, top := range []int{0, 1, 2, 15, 30} {
		n := fresh(t, r)
		serve(t, n, 1, blocks[:top+1]...)
		come(t, n, 2)
		ask := asks(blocks, max(top-1, 0))
		does(t, "a greeting", n, says(2, version, verack), to(2, verack, ask)...)
		does(t, "no headers", n, says(2, empty))
		does(t, "a name that isn't there", n, says(2, inv(api.ID{1})), to(2, ask)...)
	}
}

// P20.4: the best header counts, whether its block is there or not, but not if it has failed.
func TestFirstQuestionBehindTheBest(t *testing.T) {
	r := honest.Rules(0)
	blocks := honest.Chain(r, 30, 1)
	wrong := crowd.Behind(r, blocks, 10, 25, 2, crowd.Wrongs()[0])
	n := fresh(t, r)
	serve(t, n, 1, blocks[:21]...)
	greet(t, n, 2)
	hears(t, "headers without blocks", n, says(2, heads(wrong[11:]...)))
	come(t, n, 3)
	does(t, "a greeting", n, says(3, version, verack), to(3, verack, asks(wrong, 34))...)
	n.Step(says(2, block(wrong[11])))
	banned(t, n, 2, true)
	follows(t, n, blocks[20])
	come(t, n, 4)
	does(t, "a greeting", n, says(4, version, verack), to(4, verack, asks(blocks, 19))...)
}

// P20.4: of who told of some the question is for what is behind the best of them, which another one is only with more work.
func TestBest(t *testing.T) {
	r := honest.Rules(0)
	blocks := honest.Chain(r, 30, 1)
	short := crowd.Behind(r, blocks, 5, 10, 2)
	long := crowd.Behind(r, blocks, 5, 25, 3)
	n := fresh(t, r)
	serve(t, n, 1, blocks...)
	id := greet(t, n, 2)
	unknown := says(id, inv(api.ID{1}))
	told := func(blocks []api.Block, top int) {
		t.Helper()
		does(t, "a name that isn't there", n, unknown, to(id, asks(blocks, top))...)
		hears(t, "no headers", n, says(id, empty))
	}
	told(blocks, 29)
	hears(t, "headers that are there", n, says(id, heads(blocks[1:4]...)))
	told(blocks, 3)
	hears(t, "more of them", n, says(id, heads(blocks[4:21]...)))
	told(blocks, 20)
	hears(t, "another way", n, says(id, heads(short[6:]...)))
	told(blocks, 20)
	hears(t, "one that is as long", n, says(id, heads(long[6:21]...)))
	told(blocks, 20)
	hears(t, "one that is longer", n, says(id, heads(long[21:23]...)))
	told(long, 22)
	hears(t, "the first one", n, says(id, heads(blocks[1])))
	told(long, 22)
	hears(t, "the other one once more", n, says(id, heads(blocks[5:24]...)))
	told(blocks, 23)
	hears(t, "nothing of it", n, says(id, notFound()))
	told(blocks, 29)
	scores(t, n, id, 0)
	other := greet(t, n, 3)
	does(t, "another one's best", n, says(other, inv(api.ID{1})), to(other, asks(blocks, 29))...)
}

// P20.4: nobody is asked twice.
func TestNotAskedTwice(t *testing.T) {
	r := honest.Rules(0)
	blocks := honest.Chain(r, 40, 1)
	n := fresh(t, r)
	come(t, n, 1)
	ask := asks(blocks, 0)
	does(t, "a greeting, and names", n, says(1, version, verack, inv(api.ID{1}), inv(api.ID{2})), to(1, verack, ask)...)
	does(t, "names", n, says(1, inv(api.ID{1})))
	hears(t, "headers, and names", n, says(1, heads(blocks[1:33]...), inv(api.ID{1}), inv(api.ID{1})), to(1, asks(blocks, 32))...)
	hears(t, "names", n, says(1, inv(api.ID{1})))
	hears(t, "no headers, and names", n, says(1, empty, inv(api.ID{1}), inv(api.ID{1})), to(1, asks(blocks, 32))...)
}

// P20.4: who says as many as may be is asked again, if they were all added; who says fewer isn't.
func TestAskedAgain(t *testing.T) {
	r := honest.Rules(0)
	blocks := honest.Chain(r, 64, 1)
	n := fresh(t, r)
	greet(t, n, 1)
	for _, x := range [][2]int{{1, 33}, {33, 65}, {1, 33}, {20, 52}} {
		want := 32
		if n.Chain().Len() > 33 || x[0] == 33 {
			want = 64
		}
		outs := n.Step(says(1, heads(blocks[x[0]:x[1]]...)))
		if len(outs) == 0 || !sameOuts(outs[:1], to(1, asks(blocks, want))) {
			t.Fatalf("those from %d on: %+v", x[0], outs)
		}
		hears(t, "no headers", n, says(1, empty))
	}
	for _, x := range [][2]int{{1, 32}, {1, 2}, {34, 65}, {64, 65}} {
		hears(t, "fewer", n, says(1, heads(blocks[x[0]:x[1]]...)))
	}
	knows(t, n, 65)
	scores(t, n, 1, 0)
}

// P20.4: headers whose parent isn't there are blamed by 20, whatever else is wrong with them.
func TestNoParent(t *testing.T) {
	r := honest.Rules(0)
	blocks := honest.Chain(r, 40, 1)
	n := fresh(t, r)
	greet(t, n, 1)
	wrong := heads(blocks[3], blocks[9], blocks[1])
	wrong.Heads[0] = unproved(wrong.Heads[0])
	for i, m := range []msg.Msg{heads(blocks[2]), heads(blocks[2:34]...), wrong, heads(r.Genesis)} {
		does(t, "headers without a parent", n, says(1, m))
		scores(t, n, 1, 20*(i+1))
		knows(t, n, 1)
	}
	does(t, "names", n, says(1, inv(api.ID{1})), to(1, getHeads(ids(r.Genesis)...))...)
	does(t, "headers without a parent", n, says(1, heads(blocks[2])))
	scores(t, n, 1, -1)
	banned(t, n, 1, true)
}

// P20.4: headers behind which no work stands, or that aren't in a row, are blamed by 100, even if there is too little work.
func TestNoRow(t *testing.T) {
	for _, work := range []int{0, 5, 30, 1000} {
		r := honest.Rules(work)
		blocks := honest.Chain(r, 40, 1)
		for _, many := range []int{1, 2, 31, 32} {
			for _, k := range []int{0, 1, many / 2, many - 1} {
				right := heads(blocks[1 : many+1]...)
				unlike := heads(blocks[1 : many+1]...)
				none := heads(blocks[1 : many+1]...)
				hard := heads(blocks[1 : many+1]...)
				if k >= many {
					continue
				}
				none.Heads[k] = unproved(none.Heads[k])
				hard.Heads[k].Bits = 0x21008000
				list := []msg.Msg{none, hard}
				if k > 0 {
					unlike.Heads[k] = remined(api.Header{Prev: head.ID(r.Genesis.Header), Time: 10, Bits: easy})
					list = append(list, unlike)
				}
				for _, m := range list {
					n := fresh(t, r)
					greet(t, n, 1)
					does(t, "headers that aren't right", n, says(1, m))
					scores(t, n, 1, -1)
					banned(t, n, 1, true)
					knows(t, n, 1)
				}
				n := fresh(t, r)
				greet(t, n, 1)
				n.Step(says(1, right))
				scores(t, n, 1, 0)
			}
		}
	}
}

// P20.4: fewer headers than may be count only if there is enough work, with all ahead of them.
func TestNeed(t *testing.T) {
	r := honest.Rules(20)
	blocks := honest.Chain(r, 60, 1)
	for many := 1; many < 32; many++ {
		n := fresh(t, r)
		greet(t, n, 1)
		hears(t, "headers", n, says(1, heads(blocks[1:many+1]...)))
		scores(t, n, 1, 0)
		size(t, n, n.Flights(1))
		if many < 19 {
			knows(t, n, 1)
			flights(t, n, 1, 0)
		} else {
			knows(t, n, many+1)
			flights(t, n, 1, 16)
		}
	}
	n := fresh(t, r)
	serve(t, n, 1, blocks[:31]...)
	id := greet(t, n, 2)
	for at := 10; at < 31; at++ {
		side := crowd.Behind(r, blocks, at, 3, 2)
		before := n.Chain().Len()
		hears(t, "a side way", n, says(id, heads(side[at+1:]...)))
		switch {
		case at+4 < 20:
			knows(t, n, before)
		default:
			knows(t, n, before+3)
		}
	}
	scores(t, n, id, 0)
}

// P20.4: work is what the bits mean, not how many headers there are.
func TestNeedOfHarderBits(t *testing.T) {
	r := honest.Rules(20)
	r.Every = 2
	r.Spacing = 1000
	n := fresh(t, r)
	greet(t, n, 1)
	prev := r.Genesis.Header
	var list []api.Header
	for tree, _ := index.New(r); ; { // its bits become harder with each second one
		at, _ := tree.Find(head.ID(prev))
		if tree.Get(at).Work[0] >= 40 {
			break
		}
		prev = remined(api.Header{Prev: head.ID(prev), Time: prev.Time + 10, Bits: tree.Next(at)})
		if _, e := tree.Add(prev, 0); e != api.OK {
			t.Fatalf("Add: %v", e)
		}
		list = append(list, prev)
	}
	if len(list) > 15 {
		t.Fatalf("%d headers", len(list))
	}
	hears(t, "all but one", n, says(1, msg.Msg{Kind: msg.Headers, Heads: list[:len(list)-1]}))
	knows(t, n, 1)
	hears(t, "all", n, says(1, msg.Msg{Kind: msg.Headers, Heads: list}))
	knows(t, n, len(list)+1)
	scores(t, n, 1, 0)
}

// P20.4: they are added at the genesis' time and the ticks; what is too early yet ends it, and isn't blamed.
func TestFuture(t *testing.T) {
	for _, start := range []uint32{0, 100000} {
		r := honest.Rules(0)
		r.Genesis.Time = start
		r.Spacing = 1000
		blocks := honest.Chain(r, 40, 1)
		n := fresh(t, r)
		serve(t, n, 1, blocks...)
		scores(t, n, 1, 0)
		knows(t, n, 8) // those up to 7000 seconds
		follows(t, n, blocks[7])
		does(t, "one leaves", n, Event{Kind: Leave, Peer: 1})
		does(t, "ticks", n, ticks(799))
		id := greet(t, n, 2)
		hears(t, "headers", n, says(id, heads(blocks[1:33]...)))
		knows(t, n, 8)
		does(t, "a tick", n, ticks(1))
		hears(t, "headers", n, says(id, heads(blocks[1:33]...)))
		knows(t, n, 9)
		scores(t, n, id, 0)
		does(t, "a name", n, says(id, inv(api.ID{1})), to(id, asks(blocks, 8))...)
		n.Step(says(id, block(blocks[8])))
		follows(t, n, blocks[8])
	}
}

// P20.4: a tree that is full ends it, and isn't blamed; what is there still counts.
func TestFullTree(t *testing.T) {
	r := honest.Rules(0)
	r.Spacing = 1
	blocks := honest.Chain(r, index.MaxNodes, 1)
	n := fresh(t, r)
	does(t, "ticks", n, ticks(1<<20))
	id := greet(t, n, 1)
	for at := 1; at+32 < index.MaxNodes; at += 32 {
		outs := n.Step(says(id, heads(blocks[at:at+32]...)))
		if len(outs) == 0 || outs[0].Msg.Kind != msg.GetHeaders {
			t.Fatalf("those from %d on: %+v", at, outs)
		}
	}
	knows(t, n, index.MaxNodes-31)
	hears(t, "the last ones", n, says(id, heads(blocks[len(blocks)-32:]...)))
	knows(t, n, index.MaxNodes)
	scores(t, n, id, 0)
	hears(t, "a name", n, says(id, inv(api.ID{1})), to(id, asks(blocks, index.MaxNodes-1))...)
	hears(t, "one more", n, says(id, heads(blocks[index.MaxNodes])))
	knows(t, n, index.MaxNodes)
	scores(t, n, id, 0)
	other := greet(t, n, 2)
	hears(t, "some that are there", n, says(other, heads(blocks[1:33]...)), to(other, asks(blocks, 32))...)
}

// P20.4: what can't be added is blamed by 100, and the rest isn't added.
func TestNotAdded(t *testing.T) {
	r := honest.Rules(0)
	blocks := honest.Chain(r, 20, 1)
	g := r.Genesis.Header
	same := func(k int, h *api.Header) { h.Time = min(uint32(k+1), 6) } // above the median up to the eleventh
	for _, x := range []struct {
		what  string
		m     msg.Msg
		added int
		score int
	}{
		{"other bits", row(g, 10, func(k int, h *api.Header) { h.Bits -= uint32(k / 4) }), 4, -1},
		{"times above the median", row(g, 11, same), 11, 0},
		{"a time that isn't", row(g, 12, same), 11, -1},
		{"many that aren't", row(g, 32, same), 11, -1},
		{"the time of the genesis", row(g, 32, func(k int, h *api.Header) { h.Time = uint32(k) }), 0, -1},
	} {
		n := fresh(t, r)
		greet(t, n, 1)
		hears(t, x.what, n, says(1, x.m))
		knows(t, n, x.added+1)
		scores(t, n, 1, x.score)
		banned(t, n, 1, x.score < 0)
	}
	wrong := crowd.Behind(r, blocks, 3, 20, 2, crowd.Wrongs()[0])
	n := fresh(t, r)
	serve(t, n, 1, wrong[:10]...)
	banned(t, n, 1, true)
	knows(t, n, 10)
	greet(t, n, 2)
	does(t, "failed ones that are there", n, says(2, heads(wrong[1:10]...)))
	scores(t, n, 2, 0)
	does(t, "one behind them", n, says(2, heads(wrong[1:11]...)))
	scores(t, n, 2, -1)
	knows(t, n, 10)
}

// begun is a node that wants much work, and a peer who said 32 headers of it.
func begun(t *testing.T, work, many int) (*Node, int, []api.Block) {
	t.Helper()
	r := honest.Rules(work)
	blocks := honest.Chain(r, many, 1)
	n := fresh(t, r)
	id := greet(t, n, 1)
	does(t, "32 headers", n, says(id, heads(blocks[1:33]...)), to(id, getHeads(ids(blocks[32], blocks[0])...))...)
	knows(t, n, 1)
	size(t, n, 8)
	return n, id, blocks
}

// P20.4: headers are asked for twice, the last one and the best ahead of the names.
func TestTwice(t *testing.T) {
	n, id, blocks := begun(t, 40, 80)
	all := ids(blocks...)
	does(t, "32 more", n, says(id, heads(blocks[33:65]...)), to(id, getHeads(all[0], all[0]))...)
	knows(t, n, 1)
	bits := n.Size()
	if bits != 9 && bits != 10 {
		t.Errorf("Size %d", bits)
	}
	does(t, "those once more", n, says(id, heads(blocks[1:33]...)), slices.Concat(
		to(id, getHeads(slices.Concat(all[32:33], []api.ID{all[24], all[23], all[22], all[21], all[20], all[19], all[18], all[17], all[16], all[15], all[14], all[12], all[8], all[0]})...)),
		to(id, getData(all[1:17]...)))...)
	knows(t, n, 25)
	size(t, n, bits+8+16)
	does(t, "the others once more", n, says(id, heads(blocks[33:65]...)), to(id, asks(blocks, 39))...)
	knows(t, n, 40)
	size(t, n, 16)
	hears(t, "the rest", n, says(id, heads(blocks[40:72]...)), to(id, asks(blocks, 71))...)
	hears(t, "the very rest", n, says(id, heads(blocks[72:]...)))
	knows(t, n, 81)
	scores(t, n, id, 0)
}

// P20.4: those behind a header that is there are asked for twice from there on.
func TestTwiceBehindAParent(t *testing.T) {
	r := honest.Rules(70)
	blocks := honest.Chain(r, 100, 1)
	side := crowd.Behind(r, blocks, 20, 80, 2)
	n := fresh(t, r)
	serve(t, n, 1, blocks...)
	id := greet(t, n, 2)
	all := ids(side...)
	from := asks(blocks, 99).Names
	does(t, "32 headers of a side way", n, says(id, heads(side[21:53]...)), to(id, getHeads(slices.Concat(all[52:53], from)...))...)
	does(t, "32 more", n, says(id, heads(side[53:85]...)), to(id, getHeads(slices.Concat(all[20:21], from)...))...)
	knows(t, n, 101)
	does(t, "those once more", n, says(id, heads(side[21:53]...)), to(id, getHeads(slices.Concat(all[52:53], asks(side, 44).Names)...))...)
	knows(t, n, 101+24)
	does(t, "and the others", n, says(id, heads(side[53:85]...)), to(id, asks(side, 69))...)
	knows(t, n, 101+49)
	hears(t, "the rest", n, says(id, heads(side[70:]...)))
	knows(t, n, 101+80)
	scores(t, n, id, 0)
	size(t, n, 0)
}

// P20.4: who has no more than that isn't blamed, and not asked again; then all begins anew.
func TestTooLittle(t *testing.T) {
	for what, m := range map[string]func(blocks []api.Block) msg.Msg{
		"none":       func([]api.Block) msg.Msg { return empty },
		"one":        func(b []api.Block) msg.Msg { return heads(b[33]) },
		"31, enough": func(b []api.Block) msg.Msg { return heads(b[33:64]...) },
	} {
		n, id, blocks := begun(t, 65, 64)
		all := ids(blocks...)
		does(t, what, n, says(id, m(blocks)))
		scores(t, n, id, 0)
		size(t, n, 0)
		knows(t, n, 1)
		does(t, "a name", n, says(id, inv(all[5])), to(id, getHeads(all[0]))...)
		does(t, "32 headers", n, says(id, heads(blocks[1:33]...)), to(id, getHeads(all[32], all[0]))...)
		size(t, n, 8)
		does(t, "32 more", n, says(id, heads(blocks[33:]...)), to(id, getHeads(all[0], all[0]))...)
		does(t, "too few the second time", n, says(id, heads(blocks[1:5]...)))
		scores(t, n, id, 0)
		size(t, n, 0)
	}
}

// P20.4: whatever else is wrong with them is blamed by 100.
func TestTwiceWrong(t *testing.T) {
	for what, spoil := range map[string]func(m *msg.Msg, blocks []api.Block){
		"a gap":            func(m *msg.Msg, _ []api.Block) { m.Heads = m.Heads[1:] },
		"one isn't proved": func(m *msg.Msg, _ []api.Block) { m.Heads[3] = unproved(m.Heads[3]) },
		"other bits":       func(m *msg.Msg, _ []api.Block) { m.Heads[0].Bits--; m.Heads[0] = remined(m.Heads[0]) },
		"those once more":  func(m *msg.Msg, blocks []api.Block) { *m = heads(blocks[1:33]...) },
		"no parent":        func(m *msg.Msg, _ []api.Block) { m.Heads = []api.Header{{}} },
	} {
		n, id, blocks := begun(t, 90, 100)
		m := heads(blocks[33:65]...)
		spoil(&m, blocks)
		does(t, what, n, says(id, m))
		scores(t, n, id, -1)
		banned(t, n, 1, true)
		size(t, n, 1)
		knows(t, n, 1)
	}
}

// P20.4: what can't be added the second time ends it; too early ones aren't blamed, others are.
func TestTwiceNotAdded(t *testing.T) {
	r := honest.Rules(40)
	r.Spacing = 600
	blocks := honest.Chain(r, 64, 1) // those from 13 on are too early
	n := fresh(t, r)
	id := greet(t, n, 1)
	for k := range 2 {
		hears(t, "32 headers", n, says(id, heads(blocks[1:33]...)), to(id, getHeads(slices.Concat(ids(blocks[32]), asks(blocks, 12*k).Names)...))...)
		hears(t, "32 more", n, says(id, heads(blocks[33:]...)), to(id, getHeads(slices.Concat(ids(blocks[0]), asks(blocks, 12*k).Names)...))...)
		hears(t, "those once more", n, says(id, heads(blocks[1:33]...)))
		knows(t, n, 13)
		size(t, n, 12)
		scores(t, n, id, 0)
	}
	old := row(r.Genesis.Header, 64, func(k int, h *api.Header) { h.Time = min(uint32(k+1), 6) })
	first, second := old, old
	first.Heads, second.Heads = old.Heads[:32], old.Heads[32:]
	n = fresh(t, r)
	id = greet(t, n, 1)
	n.Step(says(id, first))
	n.Step(says(id, second))
	knows(t, n, 1)
	hears(t, "old ones once more", n, says(id, first))
	scores(t, n, id, -1)
	knows(t, n, 12)
}

// P20.4: the salt is made of the number that was drawn and the peer's own: the same bits are remembered of the same headers.
func TestSalt(t *testing.T) {
	r := honest.Rules(43)
	blocks := honest.Chain(r, 64, 1)
	other := crowd.Behind(r, blocks, 32, 32, 2)
	tree, _ := index.New(r)
	sizes, kept := map[int]int{}, 0
	for k := range 60 {
		drawn := uint64(k)<<40 | uint64(k*k)
		n := fresh(t, r)
		for range k % 4 {
			come(t, n, 9)
		}
		id := greet(t, n, 1)
		does(t, "a number is drawn", n, Event{Kind: Draw, Draw: drawn})
		s := presync.New(tree, 0, sha256.Sum256(append(sample.Number(8, drawn), sample.Number(8, uint64(id))...)))
		for _, part := range [][]api.Block{blocks[1:33], blocks[33:], blocks[1:33]} {
			hears(t, "headers", n, says(id, heads(part...)), next(n, id, s, part)...)
			does(t, "a number that comes too late", n, Event{Kind: Draw, Draw: 7})
			if n.Size()-n.Flights(id) != s.Size() {
				t.Fatalf("Size %d, Flights %d, want %d", n.Size(), n.Flights(id), s.Size())
			}
			sizes[s.Size()]++
		}
		n.Step(says(id, heads(other[33:]...)))
		s.Take(true, heads(other[33:]...).Heads...)
		if s.Phase() == presync.Done {
			kept++
			scores(t, n, id, 0)
		} else {
			scores(t, n, id, -1)
		}
	}
	if len(sizes) < 4 || kept == 0 || kept == 60 {
		t.Errorf("sizes %d, %d of 60 aren't found out", sizes, kept)
	}
}

// next is what is asked of a peer when headers come, by a Sync that is like its own.
func next(n *Node, id int, s *presync.Sync, part []api.Block) []Out {
	believed := s.Take(true, heads(part...).Heads...)
	top := len(believed) // of a way from the genesis on
	way := append([]api.Block{n.Chain().Rules().Genesis}, part[:top]...)
	return to(id, getHeads(append([]api.ID{s.Last()}, asks(way, top).Names...)...))
}
