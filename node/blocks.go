package node

import (
	"tallystick/api"
	"tallystick/head"
	"tallystick/msg"
	"tallystick/peer"
	"tallystick/window"
)

// askBlocks asks those who have more than what is followed for blocks.
func (n *Node) askBlocks() {
	for _, p := range n.slots {
		if !p.Ready() || p.best == none || !n.heavier(p.best) {
			continue
		}
		var names []api.ID
		for _, i := range n.asked.Want(n.chain, p.id, p.best) {
			n.asked.Ask(i, p.id, n.now)
			names = append(names, n.chain.Get(i).ID)
		}
		if len(names) > 0 {
			n.send(p.id, msg.Msg{Kind: msg.GetData, Names: names})
		}
	}
}

// askedFor: the number of a header's name; false: the peer isn't asked for its block.
func (n *Node) askedFor(p *slot, id api.ID) (int, bool) {
	i, known := n.chain.Find(id)
	who, ok := n.asked.Asked(i)
	if !known || !ok || who != p.id {
		return 0, false
	}
	return i, true
}

// takeBlock: a peer says a block.
func (n *Node) takeBlock(p *slot, b api.Block) {
	i, ok := n.askedFor(p, head.ID(b.Header))
	if !ok {
		return
	}
	was := n.chain.Tip()
	switch _, e := n.chain.Body(b); e {
	case api.OK:
		n.asked.Got(i)
	case api.ErrTwice, api.ErrFailed: // they couldn't know
		n.asked.Free(i)
	default:
		n.asked.Free(i)
		p.Blame(peer.MaxScore)
	}
	if n.chain.Tip() != was {
		n.tell(p)
	}
}

// tell tells all but one of the last block that is followed.
func (n *Node) tell(but *slot) {
	for _, p := range n.slots {
		if p != but && p.Ready() {
			n.send(p.id, msg.Msg{Kind: msg.Inv, Names: []api.ID{n.tip().ID}})
		}
	}
}

// takeNone: a peer hasn't some blocks. What it told of isn't to be had of it, so its best counts no more.
func (n *Node) takeNone(p *slot, names []api.ID) {
	for _, id := range names {
		if i, ok := n.askedFor(p, id); ok {
			n.asked.Free(i)
		}
	}
	p.best = none
}

// giveBlocks answers who asks for blocks.
func (n *Node) giveBlocks(p *slot, names []api.ID) {
	var others []api.ID
	given := 0
	for _, id := range names {
		i, ok := n.chain.Find(id)
		if !ok || !n.chain.On(i, n.chain.Tip()) || given == window.MaxFlight {
			others = append(others, id)
			continue
		}
		b, _ := n.chain.Block(i)
		n.send(p.id, msg.Msg{Kind: msg.Block, Block: b})
		given++
	}
	if len(others) > 0 {
		n.send(p.id, msg.Msg{Kind: msg.NotFound, Names: others})
	}
}
