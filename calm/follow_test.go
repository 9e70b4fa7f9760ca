package calm

import (
	"slices"
	"testing"

	"tallystick/api"
	"tallystick/bits"
	"tallystick/crowd"
	"tallystick/head"
	"tallystick/honest"
	"tallystick/index"
	"tallystick/msg"
	"tallystick/node"
	"tallystick/num"
	"tallystick/presync"
	"tallystick/sample"
)

// late is a tick by which no block of these tests lies too far ahead.
const late = 1 << 18

// work is that of some blocks together.
func work(blocks []api.Block) num.Num {
	var sum num.Num
	for _, b := range blocks {
		target, _ := bits.Target(b.Bits)
		sum, _ = num.Add(sum, bits.Work(target))
	}
	return sum
}

// party is a world, those who serve right chains, and others.
type party struct {
	t     *testing.T
	w     *World
	c     *crowd.Crowd
	d     *sample.Dice
	right [][]api.Block       // chains that are right
	serve map[int][]api.Block // who serves which of them
	came  int
}

func newParty(t *testing.T, d *sample.Dice) *party {
	c := crowd.New(d)
	for c.Rules.Every != 0 {
		c = crowd.New(d)
	}
	w := fresh(t, c.Rules)
	w.Do(node.Event{Kind: node.Tick, N: late})
	return &party{t: t, w: w, c: c, d: d, right: slices.Clone(c.Ways[:c.Right]), serve: map[int][]api.Block{}}
}

// chain is a right one behind whose last block there is no other: who is asked only for what is behind it (P20.4) has nothing to tell.
func (p *party) chain() []api.Block {
	switch p.d.Below(6) {
	case 0:
		return p.c.Ways[0]
	case 1:
		return p.c.Ways[2]
	}
	base := p.right[p.d.Below(len(p.right))]
	blocks := crowd.Behind(p.c.Rules, base, p.d.Below(len(base)-1), 1+p.d.Below(60), byte(20+len(p.right)))
	p.right = append(p.right, blocks)
	return blocks
}

// way is any chain, right or wrong.
func (p *party) way() []api.Block {
	if p.d.Below(2) == 0 {
		return p.right[p.d.Below(len(p.right))]
	}
	return p.c.Way()
}

// guest lets somebody come who serves a right chain.
func (p *party) guest() {
	blocks := p.chain()
	p.came++
	if id := p.w.Join(1000+p.came, uint64(1<<40+p.d.Next()), blocks...); id != 0 {
		p.serve[id] = blocks
	}
}

// other is a peer who doesn't serve a right chain; 0: there is none.
func (p *party) other() int {
	var list []int
	for _, id := range p.w.Peers() {
		if p.serve[id] == nil {
			list = append(list, id)
		}
	}
	if len(list) == 0 {
		return 0
	}
	return list[p.d.Below(len(list))]
}

// tell lets somebody tell all headers of a chain, from some height on, once or twice.
func (p *party) tell(id int) {
	way := p.way()
	from := 1 + p.d.Below(len(way)-1)
	if p.d.Below(3) > 0 {
		from = 1
	}
	for range 1 + p.d.Below(2) {
		for at := from; at < len(way); at += msg.MaxHeaders {
			p.w.Do(says(id, heads(way[at:min(at+msg.MaxHeaders, len(way))]...)))
		}
	}
}

// rogue lets one of the others do anything.
func (p *party) rogue() {
	id := p.other()
	if id == 0 || p.d.Below(6) == 0 {
		for _, o := range p.w.Do(node.Event{Kind: node.Connect, Addr: p.d.Below(400)}) {
			if o.Msg.Kind == msg.Version {
				p.w.Do(says(o.Peer, version, verack))
				p.tell(o.Peer)
			}
		}
		return
	}
	way := p.way()
	at := p.d.Below(len(way))
	switch p.d.Below(24) {
	case 0, 1, 2, 3:
		p.w.Do(says(id, version, verack))
	case 4, 5, 6, 7, 8, 9:
		p.tell(id)
	case 10, 11, 12:
		for _, b := range way[at:min(at+20, len(way))] {
			p.w.Do(says(id, msg.Msg{Kind: msg.Block, Block: b}))
		}
	case 13:
		b := way[at]
		b.Txs = append(slices.Clone(b.Txs), crowd.Wrongs()[p.d.Below(2)])
		p.w.Do(says(id, msg.Msg{Kind: msg.Block, Block: b}))
	case 14, 15:
		var names []api.ID
		for i := range min(p.w.Chain().Len(), 64) {
			names = append(names, p.w.Chain().Get(p.w.Chain().Len()-1-i).ID)
		}
		p.w.Do(says(id, msg.Msg{Kind: msg.NotFound, Names: names}))
	case 16:
		p.w.Do(node.Event{Kind: node.Leave, Peer: id})
	case 17:
		p.w.Do(node.Event{Kind: node.Data, Peer: id, Data: p.d.Text(9)})
	case 18, 19:
		p.w.Join(p.d.Below(400), uint64(1<<40+p.d.Next()), way...)
	default:
		p.w.Do(says(id, p.c.Chatter()))
	}
}

// turn lets anything happen.
func (p *party) turn() {
	switch k := p.d.Below(40); {
	case k < 2:
		p.guest()
	case k < 3 && len(p.serve) > 0:
		list := append(p.w.Peers(), 0)
		p.w.Do(node.Event{Kind: node.Leave, Peer: list[p.d.Below(len(list))]})
	case k < 4:
		p.w.Do(node.Event{Kind: node.Draw, Draw: uint64(p.d.Next())})
	case k < 8:
		p.w.Round(300)
	case k < 20:
		p.rogue()
	default:
		list := append(p.w.Peers(), 0)
		p.w.Answer(list[p.d.Below(len(list))], 1+p.d.Below(3))
	}
}

// most is the work of the best chain that a peer serves and that may be believed; 0, if there is none.
func (p *party) most() num.Num {
	var most num.Num
	for _, id := range p.w.Peers() {
		sum := work(p.serve[id])
		if num.Cmp(sum, presync.Need(p.c.Rules)) >= 0 && num.Cmp(sum, most) > 0 {
			most = sum
		}
	}
	return most
}

// rounds lets time go on, whatever others do, until the best chain, or something with as much work, is followed: how many rounds it took.
func (p *party) rounds(most int) int {
	p.t.Helper()
	for i := range most {
		if num.Cmp(p.w.Work(), p.most()) >= 0 {
			return i
		}
		for range p.d.Below(6) {
			p.rogue()
		}
		p.w.Round(300)
	}
	p.t.Fatalf("behind %d rounds: Work %v, want %v", most, p.w.Work(), p.most())
	return most
}

// P22.4: among others who do anything.
func TestFollowAmongAny(t *testing.T) {
	d := sample.Dice(224)
	some, later := 0, 0
	for range 200 {
		p := newParty(t, &d)
		for range 60 + d.Below(100) {
			p.turn()
		}
		p.guest()
		p.w.Settle(300)
		if p.rounds(3000) > 0 {
			later++
		}
		if !p.most().Zero() {
			some++
		}
	}
	if some < 150 || later < 5 {
		t.Errorf("somebody serves in %d worlds, in %d of them what they serve isn't followed at once", some, later)
	}
}

// P22.4: a chain that has just the work that is wanted is followed.
func TestFollowEnough(t *testing.T) {
	for _, want := range []int{0, 1, 2, 3, 31, 32, 33, 34, 35, 63, 64, 65, 66, 97, 128, 1000} {
		r := honest.Rules(want)
		for _, many := range []int{want - 2, want - 1, want, want + 1, want + 31, want + 32, want + 33} {
			if many < 0 {
				continue
			}
			w := fresh(t, r)
			w.Do(node.Event{Kind: node.Tick, N: late})
			join(t, w, 1, honest.Chain(r, many, 1)...)
			w.Settle(1 << 20)
			height := many
			if many+1 < want { // with the genesis
				height = 0
			}
			follows(t, "a chain", w, height)
		}
	}
}

// shuffled lets those who serve answer in any order, till nothing waits.
func shuffled(w *World, d *sample.Dice, ids []int) {
	for again := true; again; {
		again = false
		for range 20 {
			id := ids[d.Below(len(ids))]
			w.Answer(id, d.Below(4))
		}
		for _, id := range ids {
			again = again || w.Waits(id) > 0
		}
	}
}

// P22.4: of several the best one, in whatever order they come and answer.
func TestFollowBest(t *testing.T) {
	d := sample.Dice(225)
	for _, want := range []int{0, 20, 40, 100} {
		r := honest.Rules(want)
		trunk := honest.Chain(r, 120, 1)
		for range 40 {
			w := fresh(t, r)
			var ids []int
			best := 0
			for i := range 2 + d.Below(7) {
				at := d.Below(100)
				blocks := crowd.Behind(r, trunk, at, 1+d.Below(80), byte(2+i))
				if len(blocks) >= want {
					best = max(best, len(blocks)-1)
				}
				ids = append(ids, join(t, w, i, blocks...))
				for range d.Below(20) {
					w.Answer(ids[d.Below(len(ids))], 1)
				}
			}
			shuffled(w, &d, ids)
			follows(t, "the best one", w, best)
		}
	}
}

// P22.4: whoever serves a better one later is followed then.
func TestFollowBetter(t *testing.T) {
	r := honest.Rules(10)
	trunk := honest.Chain(r, 60, 1)
	w := fresh(t, r)
	for i, blocks := range [][]api.Block{trunk[:20], crowd.Behind(r, trunk, 5, 15, 2), crowd.Behind(r, trunk, 18, 10, 3), trunk, trunk[:30], crowd.Behind(r, trunk, 0, 61, 4)} {
		join(t, w, i, blocks...)
		w.Settle(1 << 20)
		follows(t, "the best one", w, []int{19, 20, 28, 60, 60, 61}[i])
	}
}

// P22.4: others who tell of the same headers, and don't answer, keep nobody back in the end.
func TestFollowKeptBack(t *testing.T) {
	r := honest.Rules(20)
	blocks := honest.Chain(r, 200, 1)
	w := fresh(t, r)
	for i := range 7 {
		id := w.Do(node.Event{Kind: node.Connect, Addr: i})[0].Peer
		w.Do(says(id, version, verack, heads(blocks[1:33]...)))
		for at := 33; at < 200; at += 32 {
			w.Do(says(id, heads(blocks[at:min(at+32, 201)]...)))
		}
		if w.Flights(id) != 16 {
			t.Fatalf("%d blocks are asked for", w.Flights(id))
		}
	}
	join(t, w, 50, blocks...)
	for range 400 {
		w.Round(1 << 20)
	}
	follows(t, "in the end", w, 200)
	if !slices.Equal(w.Peers(), []int{8}) {
		t.Errorf("who stays: %d", w.Peers())
	}
}

// P22.4: even if such a one comes again and again.
func TestFollowKeptBackAgain(t *testing.T) {
	r := honest.Rules(20)
	blocks := honest.Chain(r, 200, 1)
	w := fresh(t, r)
	addr := 100
	more := func() {
		for _, o := range w.Do(node.Event{Kind: node.Connect, Addr: addr}) {
			if o.Msg.Kind == msg.Version {
				w.Do(says(o.Peer, version, verack, heads(blocks[1:33]...)))
				w.Do(says(o.Peer, heads(blocks[33:65]...)))
			}
		}
		addr++
	}
	more()
	more()
	join(t, w, 50, blocks...)
	for range 400 {
		more()
		w.Round(1 << 20)
	}
	follows(t, "in the end", w, 200)
}

// P22.4: headers without blocks, with more work than what is served, keep nobody back.
func TestFollowWithoutBlocks(t *testing.T) {
	r := honest.Rules(20)
	blocks := honest.Chain(r, 50, 1)
	for _, at := range []int{0, 10, 40, 49} {
		side := crowd.Behind(r, blocks, at, 60, 2)
		for _, first := range []bool{true, false} {
			w := fresh(t, r)
			tell := func() {
				id := w.Do(node.Event{Kind: node.Connect, Addr: 2})[0].Peer
				w.Do(says(id, version, verack))
				for k := 1; k < len(side); k += 32 {
					w.Do(says(id, heads(side[k:min(k+32, len(side))]...)))
				}
			}
			if first {
				tell()
			}
			join(t, w, 1, blocks...)
			w.Settle(1 << 20)
			if !first {
				tell()
			}
			if w.Chain().Len() != 1+50+60 {
				t.Fatalf("%d headers", w.Chain().Len())
			}
			for range 30 {
				w.Round(1 << 20)
			}
			follows(t, "what is served", w, 50)
		}
	}
}

// P22.4: a wrong chain with more work isn't followed, and blocks that others spoil are asked for again.
func TestFollowNoWrongOnes(t *testing.T) {
	r := honest.Rules(20)
	blocks := honest.Chain(r, 50, 1)
	for i, x := range crowd.Wrongs() {
		wrong := crowd.Behind(r, blocks, 30, 40, 2, x)
		w := fresh(t, r)
		spoil := w.Do(node.Event{Kind: node.Connect, Addr: 2})[0].Peer
		w.Do(says(spoil, version, verack, heads(blocks[1:33]...)))
		join(t, w, 1, wrong...)
		join(t, w, 3, blocks...)
		w.Settle(10)
		b := blocks[7]
		b.Txs = append(slices.Clone(b.Txs), x)
		w.Do(says(spoil, msg.Msg{Kind: msg.Block, Block: b}))
		w.Settle(1 << 20)
		for range 25 {
			w.Round(1 << 20)
		}
		follows(t, "what is right", w, 50)
		if w.Score(spoil) != -1 || !w.Banned(2) || w.Banned(1) != (i == 0) { // only what is wrong by itself is blamed
			t.Errorf("the wrong chain %d: who stays: %d", i, w.Peers())
		}
	}
}

// P22.4: who doesn't answer keeps the lowest blocks of a chain back that is longer than the window is wide.
func TestFollowLong(t *testing.T) {
	r := honest.Rules(1)
	r.Spacing = 1
	blocks := honest.Chain(r, 1200, 1)
	w := fresh(t, r)
	id := w.Do(node.Event{Kind: node.Connect, Addr: 2})[0].Peer
	w.Do(says(id, version, verack, heads(blocks[1:33]...)))
	join(t, w, 1, blocks...)
	w.Settle(1 << 20)
	if c := w.Chain(); c.Tip() != 0 || c.Bodies() != 1+1024-16 || w.Flights(id) != 16 {
		t.Fatalf("%d blocks are there", c.Bodies())
	}
	for range 20 {
		w.Round(1 << 20)
	}
	w.Settle(1 << 20)
	follows(t, "all", w, 1200)
}

// harder is a chain by rules whose bits change.
func harder(t *testing.T, r api.Rules, many, spacing int, mark byte) []api.Block {
	t.Helper()
	tree, e := index.New(r)
	if e != api.OK {
		t.Fatal(e)
	}
	step := r
	step.Spacing = spacing
	list := []api.Block{r.Genesis}
	for i := range many {
		b, ok := honest.Grow(step, list[i].Header, i+1, mark)
		b.Bits = tree.Next(i)
		mined, ok2 := head.Mine(b.Header, r.Limit, 1<<16)
		if _, e := tree.Add(mined, late); !ok || !ok2 || e != api.OK {
			t.Fatalf("the block %d: %v", i+1, e)
		}
		list = append(list, api.Block{Header: mined, Txs: b.Txs})
	}
	return list
}

// P22.4: where bits change, what is followed isn't the longest one, but that with the most work.
func TestFollowHarder(t *testing.T) {
	r := honest.Rules(60)
	r.Every = 20
	long, short, less := harder(t, r, 150, 11, 1), harder(t, r, 100, 5, 2), harder(t, r, 70, 10, 3)
	if num.Cmp(work(short), work(long)) <= 0 || num.Cmp(work(long), work(less)) <= 0 {
		t.Fatalf("work: %v, %v, %v", work(long), work(short), work(less))
	}
	d := sample.Dice(226)
	for range 20 {
		w := fresh(t, r)
		ids := []int{join(t, w, 1, long...), join(t, w, 2, short...), join(t, w, 3, less...)}
		shuffled(w, &d, ids)
		c := w.Chain()
		if c.Get(c.Tip()).Height != 100 || w.Work() != work(short) {
			t.Errorf("%d is followed", c.Get(c.Tip()).Height)
		}
		if !slices.Equal(w.Peers(), ids) {
			t.Errorf("who stays: %d", w.Peers())
		}
	}
}
