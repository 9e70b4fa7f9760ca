package chain

import (
	"cmp"
	"slices"

	"tallystick/api"
	"tallystick/locate"
	"tallystick/num"
)

// follow looks among those that are ready by now for the best one that can be followed. Those that were ready before needn't be asked again: the work that is followed never falls.
func (c *Chain) follow(list []int) {
	slices.SortFunc(list, func(i, k int) int {
		return cmp.Or(num.Cmp(c.Get(k).Work, c.Get(i).Work), cmp.Compare(i, k))
	})
	last := c.tip
	for _, i := range list {
		if c.better(last, i) != i {
			continue
		}
		wrong := c.turn(i)
		if wrong == none {
			return
		}
		c.Fail(wrong)
	}
	c.turn(last)
}

// turn leaves what is followed for the way to a header: the first on it that can't be connected, and then the one ahead of that is the last; or none.
func (c *Chain) turn(to int) int {
	c.back(locate.Meet(c.Tree, c.tip, to))
	return c.forth(to)
}

// back takes away blocks, the last one first, down to a header on the way that is followed.
func (c *Chain) back(to int) {
	for c.tip != to {
		last := len(c.undos) - 1
		c.coins.Disconnect(c.block(c.tip), c.undos[last])
		c.undos = slices.Delete(c.undos, last, last+1)
		c.tip = c.Get(c.tip).Parent
	}
}

// forth connects the blocks behind the last one, up to a header: the first that can't be, or none.
func (c *Chain) forth(to int) int {
	subsidy := c.Rules().Subsidy
	for _, i := range locate.Way(c.Tree, c.tip, to) {
		undo, e := c.coins.Connect(c.block(i), c.Get(i).Height, subsidy)
		if e != api.OK {
			return i
		}
		c.undos, c.tip = append(c.undos, undo), i
	}
	return none
}
