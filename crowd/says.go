package crowd

import (
	"slices"

	"tallystick/api"
	"tallystick/head"
	"tallystick/msg"
)

// Laid: messages' bytes; none, if one of them can't be laid.
func Laid(list ...msg.Msg) []byte {
	b, _ := msg.All(list...)
	return b
}

// Pieces: the same bytes, at times in several pieces.
func (c *Crowd) Pieces(b []byte) [][]byte {
	var list [][]byte
	for len(b) > 1 && c.d.Below(4) == 0 {
		k := 1 + c.d.Below(len(b)-1)
		list = append(list, b[:k])
		b = b[k:]
	}
	if len(b) > 0 {
		list = append(list, b)
	}
	return list
}

// Spoiled: what is answered to a message, in which something may be wrong.
func (c *Crowd) Spoiled(list []msg.Msg, to msg.Msg) []msg.Msg {
	switch c.d.Below(40) {
	case 0:
		return nil
	case 1:
		return append(list, list...)
	case 2:
		return append(list, c.Chatter())
	case 3:
		return append([]msg.Msg{c.Chatter()}, list...)
	case 4:
		if to.Kind == msg.GetData {
			return []msg.Msg{{Kind: msg.NotFound, Names: to.Names}}
		}
	case 5:
		slices.Reverse(list)
	case 6, 7:
		for i := range list {
			c.spoil(&list[i])
		}
	}
	return list
}

// spoil turns something of a message.
func (c *Crowd) spoil(m *msg.Msg) {
	if m.Kind == msg.Block {
		m.Block.Txs = append(m.Block.Txs, Wrongs()[1])
	}
	if m.Kind != msg.Headers || len(m.Heads) == 0 {
		return
	}
	k := c.d.Below(len(m.Heads))
	switch c.d.Below(6) {
	case 0:
		m.Heads = m.Heads[:k]
	case 1:
		m.Heads = m.Heads[k:]
	case 2:
		m.Heads[k].Nonce++
	case 3:
		m.Heads = slices.Delete(m.Heads, k, k+1)
	case 4:
		m.Heads[k].Bits = 0x203fffff
	case 5:
		c.turn(m.Heads, k)
	}
}

// turn makes others of headers, from the k-th on, that are as right.
func (c *Crowd) turn(heads []api.Header, k int) {
	for i := k; i < len(heads); i++ {
		h := heads[i]
		h.Version++
		if i > 0 {
			h.Prev = head.ID(heads[i-1])
		}
		h.Nonce = 0
		heads[i], _ = head.Mine(h, c.Rules.Limit, 1<<16)
	}
}

// Chatter: anything that may be said.
func (c *Crowd) Chatter() msg.Msg {
	way := c.Way()
	at := c.d.Below(len(way))
	switch c.d.Below(12) {
	case 0:
		return msg.Msg{Kind: msg.GetHeaders, Names: c.Names(5), Stop: head.ID(c.Block().Header)}
	case 1:
		return msg.Msg{Kind: msg.GetHeaders, Names: c.Names(5)}
	case 2:
		return msg.Msg{Kind: msg.GetData, Names: c.Names(30)}
	case 3, 4:
		return msg.Msg{Kind: msg.Inv, Names: c.Names(3)}
	case 5:
		return msg.Msg{Kind: msg.NotFound, Names: c.Names(3)}
	case 6:
		return msg.Msg{Kind: msg.Block, Block: way[at]}
	case 7:
		return msg.Msg{Kind: []int{msg.Version, msg.Verack, msg.Ping, msg.Pong}[c.d.Below(4)], Nonce: uint64(c.d.Below(500))}
	}
	many := msg.MaxHeaders
	if c.d.Below(2) == 0 {
		many = c.d.Below(msg.MaxHeaders + 1)
	}
	m := msg.Msg{Kind: msg.Headers}
	for _, b := range way[at:min(at+many, len(way))] {
		m.Heads = append(m.Heads, b.Header)
	}
	if c.d.Below(4) == 0 {
		c.spoil(&m)
	}
	return m
}
