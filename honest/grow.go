package honest

import (
	"tallystick/api"
	"tallystick/check"
	"tallystick/hash"
	"tallystick/head"
	"tallystick/own"
	"tallystick/tx"
)

// easy is bits by which about every second header is proved.
const easy = 0x207fffff

// tries is how many nonces a block may need.
const tries = 1 << 12

// What the blocks of Rules go by.
const (
	spacing = 10
	subsidy = 50
)

// First: a block's first transaction: the rules' subsidy, under the lock of a key that is the mark; its height and the mark tell it from others.
func First(r api.Rules, height int, mark byte) api.Tx {
	in := api.In{Point: check.Maker(), Key: []byte{byte(height), byte(height >> 8), mark}}
	out := api.Out{Amount: r.Subsidy, Lock: hash.Sum([]byte{mark})}
	return api.Tx{Ins: []api.In{in}, Outs: []api.Out{out}}
}

// Grow: a block behind another one, with some transactions behind the first, mined; false: it can't be, and these transactions have no header.
func Grow(r api.Rules, prev api.Header, height int, mark byte, more ...api.Tx) (api.Block, bool) {
	txs := append([]api.Tx{First(r, height, mark)}, own.Txs(more)...)
	root, _ := tx.Root(txs...)
	h := api.Header{Version: 1, Prev: head.ID(prev), Root: root, Time: prev.Time + uint32(r.Spacing), Bits: prev.Bits}
	mined, ok := head.Mine(h, r.Limit, tries)
	return api.Block{Header: mined, Txs: txs}, ok
}

// Chain: the genesis and so many blocks behind it; fewer, if one can't be mined.
func Chain(r api.Rules, n int, mark byte) []api.Block {
	list := []api.Block{apart(r.Genesis)}
	for height := 1; height <= n; height++ {
		b, ok := Grow(r, list[height-1].Header, height, mark)
		if !ok {
			break
		}
		list = append(list, b)
	}
	return list
}

// Rules: rules by which every second header is proved, the bits never change, and so many blocks are needed, with a genesis.
func Rules(work int) api.Rules {
	r := api.Rules{Limit: easy, Spacing: spacing, Subsidy: subsidy, Work: work}
	r.Genesis.Txs = []api.Tx{First(r, 0, 0)}
	r.Genesis.Root, _ = tx.Root(r.Genesis.Txs...)
	r.Genesis.Bits = r.Limit
	return r
}
