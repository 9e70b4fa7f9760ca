package node

import (
	"cmp"
	"slices"

	"tallystick/msg"
	"tallystick/peer"
	"tallystick/presync"
)

// none is the number of no header.
const none = -1

// slot is a peer (embedded), and what is asked of them.
type slot struct {
	*peer.Peer
	id, addr int
	best     int           // the number of the best header of which they told, or none
	waits    bool          // they were asked for headers, and none came since
	since    int           // the tick at which they were
	sync     *presync.Sync // of their headers, as long as these are asked for twice
}

// late: should their headers be here?
func (p *slot) late(now int) bool { return p.waits && now-p.since >= HeadWait }

// size: how much is kept of them.
func (p *slot) size() int {
	if p.sync == nil {
		return p.Held()
	}
	return p.Held() + p.sync.Size()
}

// find: a peer; nil: there is none of that number.
func (n *Node) find(id int) *slot {
	for _, p := range n.slots {
		if p.id == id {
			return p
		}
	}
	return nil
}

// connect: somebody at an address comes.
func (n *Node) connect(addr int) {
	if n.Banned(addr) {
		n.refused++
		return
	}
	if len(n.slots) >= MaxPeers && !n.makeRoom() {
		return
	}
	n.last++
	p, hello := peer.New(n.drawn+uint64(n.last), uint32(n.tip().Height), n.now)
	n.slots = append(n.slots, &slot{Peer: p, id: n.last, addr: addr, best: none})
	n.send(n.last, hello...)
}

// makeRoom removes the peer that behaved worst; false: nobody behaved badly.
func (n *Node) makeRoom() bool {
	worst := slices.MaxFunc(n.slots, func(a, b *slot) int { return cmp.Compare(a.Score(), b.Score()) }) // the first of several
	if worst.Score() == 0 {
		return false
	}
	n.remove(worst.id)
	return true
}

// remove: one is a peer no more, and others may be asked for what that one was asked for.
func (n *Node) remove(id int) {
	n.slots = slices.DeleteFunc(n.slots, func(p *slot) bool { return p.id == id })
	n.asked.Drop(id)
}

// data: a peer says bytes.
func (n *Node) data(id int, b []byte) {
	p := n.find(id)
	if p == nil {
		return
	}
	greeted := p.Ready()
	said, answers := p.Hear(b)
	n.send(id, answers...)
	if p.Ready() && !greeted {
		n.askHeads(p)
	}
	for _, m := range said {
		if p.Bad() {
			break
		}
		n.hear(p, m)
	}
	if p.Bad() {
		n.bans.Ban(p.addr, n.now+BanTime)
		n.remove(id)
	}
}

// hear: a peer that has greeted says a message.
func (n *Node) hear(p *slot, m msg.Msg) {
	switch m.Kind {
	case msg.GetHeaders:
		n.giveHeads(p, m)
	case msg.GetData:
		n.giveBlocks(p, m.Names)
	case msg.Headers:
		n.takeHeads(p, m.Heads)
	case msg.Block:
		n.takeBlock(p, m.Block)
	case msg.Inv:
		n.takeNames(p, m.Names)
	case msg.NotFound:
		n.takeNone(p, m.Names)
	}
}

// tick: so many ticks pass.
func (n *Node) tick(many int) {
	if many < 0 || many > MaxTicks {
		return
	}
	n.now += many
	n.bans.Sweep(n.now)
	for _, p := range slices.Clone(n.slots) { // some are removed on the way
		list, ok := p.Tick(n.now)
		if !ok || p.late(n.now) {
			n.remove(p.id)
			continue
		}
		n.send(p.id, list...)
	}
	for id, ok := n.asked.Late(n.now); ok; id, ok = n.asked.Late(n.now) {
		n.remove(id)
	}
}
