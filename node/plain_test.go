package node

import (
	"math/big"
	"reflect"
	"slices"
	"testing"

	"tallystick/api"
	"tallystick/ban"
	"tallystick/bits"
	"tallystick/chain"
	"tallystick/hash"
	"tallystick/head"
	"tallystick/locate"
	"tallystick/msg"
	"tallystick/num"
	"tallystick/peer"
	"tallystick/presync"
	"tallystick/sample"
	"tallystick/window"
)

// plain is a node as the chapter tells of it, made of the layers below alone.
type plain struct {
	rules   api.Rules
	chain   *chain.Chain
	asked   window.Table
	bans    ban.Table
	guests  map[int]*guest
	came    int // so many were taken
	refused int
	now     int
	drawn   uint64
	out     []Out
	happens map[string]int // how often what the chapter tells of happened
}

// guest is one who came.
type guest struct {
	peer  *peer.Peer
	addr  int
	best  *int
	asked []int // the tick at which they were asked for headers, as long as none came
	sync  *presync.Sync
}

func newPlain(r api.Rules) *plain {
	c, _ := chain.New(r)
	return &plain{rules: r, chain: c, guests: map[int]*guest{}, happens: map[string]int{}}
}

func wide(n num.Num) *big.Int {
	id := n.ID()
	slices.Reverse(id[:])
	return new(big.Int).SetBytes(id[:])
}

func (p *plain) count(what string, is bool) bool {
	if is {
		p.happens[what]++
	}
	return is
}

func (p *plain) peers() []int {
	var list []int
	for id := range p.guests {
		list = append(list, id)
	}
	slices.Sort(list)
	return list
}

func (p *plain) say(id int, m msg.Msg) { p.out = append(p.out, Out{Peer: id, Msg: m}) }

func (p *plain) leave(id int) {
	delete(p.guests, id)
	p.asked.Drop(id)
}

func (p *plain) height(i int) int { return p.chain.Get(i).Height }

func (p *plain) work(i int) *big.Int { return wide(p.chain.Get(i).Work) }

func (p *plain) step(e Event) []Out {
	p.out = nil
	switch e.Kind {
	case Connect:
		p.connect(e.Addr)
	case Leave:
		if _, ok := p.guests[e.Peer]; ok {
			p.leave(e.Peer)
		}
	case Data:
		p.data(e.Peer, e.Data)
	case Tick:
		if p.count("a tick that counts", e.N >= 0 && e.N <= 1048576) {
			p.tick(e.N)
		}
	case Draw:
		p.drawn = e.Draw
	}
	for _, id := range p.peers() {
		g := p.guests[id]
		if !g.peer.Ready() || g.best == nil || p.work(*g.best).Cmp(p.work(p.chain.Tip())) <= 0 {
			continue
		}
		var ids []api.ID
		for _, i := range p.asked.Want(p.chain, id, *g.best) {
			p.asked.Ask(i, id, p.now)
			ids = append(ids, p.chain.Get(i).ID)
		}
		if len(ids) > 0 {
			p.say(id, msg.Msg{Kind: msg.GetData, Names: ids})
		}
	}
	return p.out
}

func (p *plain) connect(addr int) {
	if p.count("refused", p.bans.Banned(addr, p.now)) {
		p.refused++
		return
	}
	if len(p.guests) == 8 {
		worst := 0
		for _, id := range p.peers() {
			if worst == 0 || p.guests[id].peer.Score() > p.guests[worst].peer.Score() {
				worst = id
			}
		}
		if p.count("not taken", p.guests[worst].peer.Score() == 0) {
			return
		}
		p.count("room is made", true)
		p.leave(worst)
	}
	p.came++
	q, list := peer.New(p.drawn+uint64(p.came), uint32(p.height(p.chain.Tip())), p.now)
	p.guests[p.came] = &guest{peer: q, addr: addr}
	p.say(p.came, list[0])
}

func (p *plain) tick(many int) {
	p.now += many
	p.bans.Sweep(p.now)
	for _, id := range p.peers() {
		g := p.guests[id]
		list, ok := g.peer.Tick(p.now)
		if p.count("late with the greeting or a pong", !ok) || p.count("late with headers", len(g.asked) > 0 && p.now >= g.asked[0]+60) {
			p.leave(id)
			continue
		}
		for _, m := range list {
			p.say(id, m)
		}
	}
	for {
		id, ok := p.asked.Late(p.now)
		if !p.count("late with a block", ok) {
			return
		}
		p.leave(id)
	}
}

func (p *plain) data(id int, b []byte) {
	g, ok := p.guests[id]
	if !ok {
		return
	}
	was := g.peer.Ready()
	said, answers := g.peer.Hear(b)
	for _, m := range answers {
		p.say(id, m)
	}
	if !was && g.peer.Ready() {
		p.askFor(id, g)
	}
	for _, m := range said {
		if g.peer.Score() < 100 {
			p.hear(id, g, m)
		}
	}
	if p.count("banned", g.peer.Score() == 100) {
		p.bans.Ban(g.addr, p.now+1000)
		p.leave(id)
	}
}

func (p *plain) askFor(id int, g *guest) {
	if len(g.asked) > 0 {
		return
	}
	g.asked = []int{p.now}
	var ids []api.ID
	if g.sync != nil {
		ids = append(ids, g.sync.Last())
	}
	from := 0
	if g.best != nil {
		from = *g.best
	} else if best := p.chain.Best(); best != 0 {
		from = p.chain.Get(best).Parent
	}
	ids = append(ids, locate.Names(p.chain.Tree, from)...)
	if len(ids) > 32 {
		ids = ids[:32]
	}
	p.say(id, msg.Msg{Kind: msg.GetHeaders, Names: ids})
}

func (p *plain) hear(id int, g *guest, m msg.Msg) {
	switch m.Kind {
	case msg.GetHeaders:
		tip := p.chain.Tip()
		heads := locate.After(p.chain.Tree, tip, locate.Fork(p.chain.Tree, tip, m.Names...), m.Stop, 32)
		p.say(id, msg.Msg{Kind: msg.Headers, Heads: heads})
	case msg.GetData:
		p.serve(id, m.Names)
	case msg.Inv:
		if p.count("an inv of what isn't there", slices.ContainsFunc(m.Names, func(id api.ID) bool { _, ok := p.chain.Find(id); return !ok })) {
			p.askFor(id, g)
		}
	case msg.NotFound:
		for _, name := range m.Names {
			i, ok := p.chain.Find(name)
			if who, is := p.asked.Asked(i); p.count("a block isn't found", ok && is && who == id) {
				p.asked.Free(i)
			}
		}
		g.best = nil
	case msg.Block:
		p.block(id, g, m.Block)
	case msg.Headers:
		g.asked = nil
		if g.sync != nil {
			p.again(id, g, m.Heads)
		} else if len(m.Heads) > 0 {
			p.headers(id, g, m.Heads)
		}
	}
}

func (p *plain) serve(id int, names []api.ID) {
	var others []api.ID
	blocks := 0
	for _, name := range names {
		i, ok := p.chain.Find(name)
		if ok && p.chain.On(i, p.chain.Tip()) && blocks < 16 {
			b, _ := p.chain.Block(i)
			p.say(id, msg.Msg{Kind: msg.Block, Block: b})
			blocks++
		} else {
			others = append(others, name)
		}
	}
	if p.count("others are not found", len(others) > 0) {
		p.say(id, msg.Msg{Kind: msg.NotFound, Names: others})
	}
}

func (p *plain) block(id int, g *guest, b api.Block) {
	i, known := p.chain.Find(head.ID(b.Header))
	if who, ok := p.asked.Asked(i); p.count("a block is passed over", !known || !ok || who != id) {
		return
	}
	tip := p.chain.Tip()
	_, e := p.chain.Body(b)
	p.count("a block: "+e.Error(), true)
	if e == api.OK {
		p.asked.Got(i)
	} else {
		p.asked.Free(i)
		if e != api.ErrTwice && e != api.ErrFailed {
			g.peer.Blame(100)
		}
	}
	if now := p.chain.Tip(); now != tip {
		p.count("another way is followed", p.chain.Get(now).Parent != tip)
		for _, other := range p.peers() {
			if other != id && p.guests[other].peer.Ready() {
				p.say(other, msg.Msg{Kind: msg.Inv, Names: []api.ID{p.chain.Get(now).ID}})
			}
		}
	}
}

func (p *plain) headers(id int, g *guest, list []api.Header) {
	parent, ok := p.chain.Find(list[0].Prev)
	if p.count("no parent", !ok) {
		g.peer.Blame(20)
		return
	}
	prev := list[0].Prev
	sum := p.work(parent)
	for _, h := range list {
		if p.count("not proved, or not in a row", head.Proved(h, p.rules.Limit) != api.OK || h.Prev != prev) {
			g.peer.Blame(100)
			return
		}
		prev = head.ID(h)
		target, _ := bits.Target(h.Bits)
		sum.Add(sum, wide(bits.Work(target)))
	}
	many := len(list) == 32
	if sum.Cmp(wide(presync.Need(p.rules))) >= 0 {
		if all := p.lay(id, g, list); all && many {
			p.askFor(id, g)
		}
		return
	}
	if p.count("too little work", many) {
		salt := hash.Sum(append(sample.Number(8, p.drawn), sample.Number(8, uint64(id))...))
		g.sync = presync.New(p.chain.Tree, parent, salt)
		p.again(id, g, list)
	}
}

func (p *plain) again(id int, g *guest, list []api.Header) {
	s := g.sync
	if all := p.lay(id, g, s.Take(len(list) == 32, list...)); p.count("headers that came twice fail", !all) {
		g.sync = nil
		return
	}
	if s.Phase() >= presync.Done {
		g.sync = nil
	}
	p.count("headers came twice", s.Phase() == presync.Done)
	if s.Phase() != presync.Over {
		p.askFor(id, g)
	} else if p.count("over: "+s.Reason().Error(), true) && s.Reason() != api.ErrShort {
		g.peer.Blame(100)
	}
}

// lay adds headers: whether all were added.
func (p *plain) lay(id int, g *guest, list []api.Header) bool {
	for _, h := range list {
		i, e := p.chain.Add(h, int64(p.rules.Genesis.Time)+int64(p.now))
		p.count("a header: "+e.Error(), true)
		if e == api.ErrFuture || e == api.ErrFull {
			return false
		}
		if e != api.OK && e != api.ErrTwice {
			g.peer.Blame(100)
			return false
		}
		if g.best == nil || p.work(i).Cmp(p.work(*g.best)) > 0 {
			g.best = &i
		}
	}
	return true
}

func (p *plain) size() int {
	sum := p.asked.Len() + p.bans.Len()
	for _, g := range p.guests {
		sum += g.peer.Held()
		if g.sync != nil {
			sum += g.sync.Size()
		}
	}
	return sum
}

// compare holds all that a node tells against the plain one.
func (p *plain) compare(t *testing.T, n *Node) {
	t.Helper()
	if n.Now() != p.now || n.Refused() != p.refused || n.Size() != p.size() || !slices.Equal(n.Peers(), p.peers()) {
		t.Fatalf("Now %d, Refused %d, Size %d, Peers %d; want %d, %d, %d, %d", n.Now(), n.Refused(), n.Size(), n.Peers(), p.now, p.refused, p.size(), p.peers())
	}
	if n.Size() > 8*(16408+256+8+16)+32 {
		t.Fatalf("Size %d", n.Size())
	}
	for id := -1; id < p.came+2; id++ {
		score := -1
		if g := p.guests[id]; g != nil {
			score = g.peer.Score()
		}
		if n.Score(id) != score || n.Flights(id) != p.asked.Count(id) {
			t.Fatalf("of %d: Score %d, Flights %d; want %d, %d", id, n.Score(id), n.Flights(id), score, p.asked.Count(id))
		}
	}
	for addr := -1; addr < 21; addr++ {
		if n.Banned(addr) != p.bans.Banned(addr, p.now) {
			t.Fatalf("Banned of %d: %v", addr, n.Banned(addr))
		}
	}
	c := n.Chain()
	if c.Len() != p.chain.Len() || c.Tip() != p.chain.Tip() || c.Best() != p.chain.Best() || c.Bodies() != p.chain.Bodies() {
		t.Fatalf("the chain: Len %d, Tip %d, Best %d, Bodies %d; want %d, %d, %d, %d", c.Len(), c.Tip(), c.Best(), c.Bodies(), p.chain.Len(), p.chain.Tip(), p.chain.Best(), p.chain.Bodies())
	}
}

// sameOuts tells whether the same goes out, a list of none being as good as no list.
func sameOuts(a, b []Out) bool {
	return slices.EqualFunc(a, b, func(a, b Out) bool { return a.Peer == b.Peer && sameMsg(a.Msg, b.Msg) })
}

func sameMsg(a, b msg.Msg) bool {
	if !slices.Equal(a.Names, b.Names) || !slices.Equal(a.Heads, b.Heads) {
		return false
	}
	a.Names, a.Heads, b.Names, b.Heads = nil, nil, nil, nil
	return reflect.DeepEqual(a, b)
}
