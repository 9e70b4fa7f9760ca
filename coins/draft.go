package coins

import (
	"tallystick/api"
	"tallystick/check"
	"tallystick/hash"
	"tallystick/tx"
)

// draft is what a block makes of the points that it touches. The set is left as it is till the whole block is known to be right.
type draft struct {
	set    *Set
	height int
	places map[api.Point]place
	spent  Undo
}

// place is how a point is behind what was done so far; the zero one is a point whose coin was spent.
type place struct {
	Coin
	there bool
}

// get: the coin at a point, as the draft has it.
func (d *draft) get(p api.Point) (Coin, bool) {
	if at, ok := d.places[p]; ok {
		return at.Coin, at.there
	}
	return d.set.Get(p)
}

// move spends a transaction's inputs and makes its outputs: what is left over.
func (d *draft) move(t api.Tx) (int64, api.Errno) {
	sum, e := d.spend(t.Ins)
	if e != api.OK {
		return 0, e
	}
	return d.lay(t, sum)
}

// spend takes the coins of inputs: how much they are together.
func (d *draft) spend(list []api.In) (int64, api.Errno) {
	var sum int64
	for _, in := range list {
		coin, ok := d.get(in.Point)
		if !ok {
			return 0, api.ErrSpent
		}
		if hash.Sum(in.Key) != coin.Lock {
			return 0, api.ErrLock
		}
		d.places[in.Point] = place{}
		d.spent.Points = append(d.spent.Points, in.Point)
		d.spent.Coins = append(d.spent.Coins, coin)
		sum += coin.Amount
	}
	return sum, api.OK
}

// lay makes coins of a transaction's outputs, which may be as much as most: what is left over.
func (d *draft) lay(t api.Tx, most int64) (int64, api.Errno) {
	sum, ok := check.Sum(t.Outs...)
	if !ok || sum > most {
		return 0, api.ErrAmount
	}
	id := tx.ID(t)
	for i, out := range t.Outs {
		p := point(id, i)
		if _, there := d.get(p); there {
			return 0, api.ErrTwice
		}
		d.places[p] = place{Coin: Coin{Out: out, Height: d.height}, there: true}
	}
	return most - sum, api.OK
}

// keep does to the set what the draft says.
func (d *draft) keep() {
	for p, at := range d.places {
		if at.there {
			d.set.put(p, at.Coin)
		} else {
			delete(d.set.coins, p)
		}
	}
}
