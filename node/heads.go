package node

import (
	"tallystick/api"
	"tallystick/bits"
	"tallystick/hash"
	"tallystick/head"
	"tallystick/locate"
	"tallystick/msg"
	"tallystick/num"
	"tallystick/peer"
	"tallystick/presync"
	"tallystick/wire"
)

// orphaned is what headers are blamed by whose parent isn't known.
const orphaned = 20

// numberSize is how many bytes a number has of which a salt is made.
const numberSize = 8

// askHeads asks a peer for headers, if it isn't already.
func (n *Node) askHeads(p *slot) {
	if p.waits {
		return
	}
	names := locate.Names(n.chain.Tree, n.from(p))
	if p.sync != nil {
		names = append([]api.ID{p.sync.Last()}, names...)
		names = names[:min(len(names), msg.MaxLocator)]
	}
	p.waits, p.since = true, n.now
	n.send(p.id, msg.Msg{Kind: msg.GetHeaders, Names: names})
}

// from: the header behind which a peer is asked for more. Of one who told of none that is the one ahead of the best, so that those who have that one have something to tell.
func (n *Node) from(p *slot) int {
	if p.best != none {
		return p.best
	}
	best := n.chain.Best()
	return max(n.chain.Get(best).Parent, 0) // the genesis has no parent
}

// takeHeads: a peer says headers.
func (n *Node) takeHeads(p *slot, list []api.Header) {
	p.waits = false
	if p.sync != nil {
		n.takeTwice(p, list)
		return
	}
	if len(list) == 0 {
		return
	}
	parent, ok := n.chain.Find(list[0].Prev)
	full := len(list) == msg.MaxHeaders
	switch {
	case !ok:
		p.Blame(orphaned)
	case !n.row(list):
		p.Blame(peer.MaxScore)
	case n.enough(parent, list):
		if n.add(p, list) && full {
			n.askHeads(p)
		}
	case full:
		p.sync = presync.New(n.chain.Tree, parent, n.salt(p))
		n.takeTwice(p, list)
	}
}

// takeTwice: headers come of a peer who is asked for them twice.
func (n *Node) takeTwice(p *slot, list []api.Header) {
	s := p.sync
	believed := s.Take(len(list) == msg.MaxHeaders, list...)
	phase := s.Phase()
	switch {
	case !n.add(p, believed):
		p.sync = nil
	case phase == presync.Over:
		p.sync = nil
		if s.Reason() != api.ErrShort { // they may just not have more
			p.Blame(peer.MaxScore)
		}
	case phase == presync.Done:
		p.sync = nil
		n.askHeads(p)
	default:
		n.askHeads(p)
	}
}

// row: does work stand behind each header of a list, and each behind the one ahead of it?
func (n *Node) row(list []api.Header) bool {
	limit := n.chain.Rules().Limit
	for i, h := range list {
		if head.Proved(h, limit) != api.OK || i > 0 && h.Prev != head.ID(list[i-1]) {
			return false
		}
	}
	return true
}

// enough: is there the work that the rules want behind headers, with all ahead of them?
func (n *Node) enough(parent int, list []api.Header) bool {
	sum := n.chain.Get(parent).Work
	for _, h := range list {
		target, _ := bits.Target(h.Bits)
		sum, _ = num.Add(sum, bits.Work(target))
	}
	return num.Cmp(sum, presync.Need(n.chain.Rules())) >= 0
}

// salt: what a peer can't know, as it doesn't know which number was drawn.
func (n *Node) salt(p *slot) api.ID {
	var w wire.Writer
	w.Put(numberSize, n.drawn, uint64(p.id))
	return hash.Sum(w.Bytes())
}

// add lays headers of which a peer told into the tree, one by one, as far as they may stand there: whether all may.
func (n *Node) add(p *slot, list []api.Header) bool {
	now := int64(n.chain.Get(0).Time) + int64(n.now)
	for _, h := range list {
		i, e := n.chain.Add(h, now)
		switch e {
		case api.OK, api.ErrTwice:
			n.told(p, i)
		case api.ErrFuture, api.ErrFull: // that isn't their fault
			return false
		default:
			p.Blame(peer.MaxScore)
			return false
		}
	}
	return true
}

// told: a peer told of a header.
func (n *Node) told(p *slot, i int) {
	if p.best == none || num.Cmp(n.chain.Get(i).Work, n.chain.Get(p.best).Work) > 0 {
		p.best = i
	}
}

// giveHeads answers who asks for headers.
func (n *Node) giveHeads(p *slot, m msg.Msg) {
	tree, tip := n.chain.Tree, n.chain.Tip()
	from := locate.Fork(tree, tip, m.Names...)
	n.send(p.id, msg.Msg{Kind: msg.Headers, Heads: locate.After(tree, tip, from, m.Stop, msg.MaxHeaders)})
}

// takeNames: a peer says which blocks it has.
func (n *Node) takeNames(p *slot, names []api.ID) {
	for _, id := range names {
		if _, ok := n.chain.Find(id); !ok {
			n.askHeads(p)
			return
		}
	}
}
