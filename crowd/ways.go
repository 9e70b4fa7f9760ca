// Package crowd has those who speak with a node in tests: chains that they serve, right and wrong ones, and what they say, keeping to the rules or not.
package crowd

import (
	"slices"

	"tallystick/api"
	"tallystick/head"
	"tallystick/honest"
	"tallystick/sample"
)

// Crowd is chains by the same rules, and dice by which it is said what of them somebody tells.
type Crowd struct {
	d     *sample.Dice
	Rules api.Rules
	Ways  [][]api.Block
	Right int // so many of the Ways, the first ones, are right
}

// New: some rules and, by these, chains that part at some heights, wrong ones among them, such that are too old, and another genesis.
func New(d *sample.Dice) *Crowd {
	r := honest.Rules([]int{0, 1, 5, 33, 34, 40, 64, 65, 90}[d.Below(9)])
	r.Spacing = []int{10, 10, 10, 50, 100, 400}[d.Below(6)]
	if d.Below(8) == 0 {
		r.Every = 1 + d.Below(40)
	}
	c := &Crowd{d: d, Rules: r}
	trunk := honest.Chain(r, 30+d.Below(90), 1)
	top := len(trunk) - 1
	one := Behind(r, trunk, d.Below(top), 10+d.Below(100), 2)
	two := Behind(r, one, d.Below(len(one)), 5+d.Below(40), 3)
	c.Ways = [][]api.Block{trunk, one, two}
	c.Right = len(c.Ways)
	for i, x := range Wrongs() {
		c.Ways = append(c.Ways, Behind(r, one, d.Below(len(one)), 20+d.Below(40), byte(10+i), x))
	}
	old, other := r, r
	old.Spacing = 0
	other.Genesis.Time = 1
	c.Ways = append(c.Ways, Behind(old, trunk, d.Below(top), 40, 5), honest.Chain(other, 40, 4))
	return c
}

// Behind: the beginning of a chain, up to a height, and so many other blocks behind it, the first of them with some transactions more.
func Behind(r api.Rules, blocks []api.Block, height, many int, mark byte, more ...api.Tx) []api.Block {
	list := slices.Clone(blocks[:height+1])
	for range many {
		last := len(list) - 1
		b, ok := honest.Grow(r, list[last].Header, last+1, mark, more...)
		if !ok {
			break
		}
		list = append(list, b)
		more = nil // one is enough
	}
	return list
}

// Wrongs: transactions by which a block is wrong, by itself and behind others.
func Wrongs() []api.Tx {
	return []api.Tx{
		{Ins: []api.In{{Point: api.Point{Tx: api.ID{1}}, Key: []byte("k")}}},
		sample.Moved(sample.Made(1, 50), 0, 50),
	}
}

// Way: one of the chains.
func (c *Crowd) Way() []api.Block { return c.Ways[c.d.Below(len(c.Ways))] }

// Block: one of the blocks.
func (c *Crowd) Block() api.Block {
	way := c.Way()
	return way[c.d.Below(len(way))]
}

// Names: those of at most so many blocks, and at times others.
func (c *Crowd) Names(most int) []api.ID {
	var list []api.ID
	for range c.d.Below(most + 1) {
		id := head.ID(c.Block().Header)
		if c.d.Below(20) == 0 {
			id = c.d.ID()
		}
		list = append(list, id)
	}
	return list
}
