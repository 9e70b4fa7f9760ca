package sample

import (
	"math"

	"tallystick/api"
	"tallystick/hash"
	"tallystick/merkle"
)

// Key opens the locks of all outputs that Outs makes.
const Key = "k"

// Outs: outputs of amounts.
func Outs(amounts ...int64) []api.Out {
	var list []api.Out
	for _, n := range amounts {
		list = append(list, api.Out{Amount: n, Lock: hash.Sum([]byte(Key))})
	}
	return list
}

// Made: a block's first transaction, of outputs of amounts; mark tells it from others.
func Made(mark int, amounts ...int64) api.Tx {
	return api.Tx{Ins: []api.In{{Point: api.Point{Index: math.MaxUint32}, Key: Number(4, uint64(mark))}}, Outs: Outs(amounts...)}
}

// Moved: a transaction that spends the i-th output of another one.
func Moved(t api.Tx, i int, amounts ...int64) api.Tx {
	return api.Tx{Ins: []api.In{{Point: At(t, i), Key: []byte(Key)}}, Outs: Outs(amounts...)}
}

// At: the point of the i-th output of a transaction.
func At(t api.Tx, i int) api.Point {
	return api.Point{Tx: hash.Twice(TxBytes(t)), Index: uint32(i)}
}

// Under: a header with the root of transactions, and the block of these.
func Under(h api.Header, txs ...api.Tx) api.Block {
	var names []api.ID
	for _, t := range txs {
		names = append(names, At(t, 0).Tx)
	}
	h.Root, _ = merkle.Root(names...)
	return api.Block{Header: h, Txs: txs}
}

// Grown: a block of transactions behind a header, as Behind makes it.
func Grown(h api.Header, mark int, txs ...api.Tx) api.Block {
	b := Under(Behind(h, mark), txs...)
	b.Header = Mined(b.Header)
	return b
}

// Founded: Rules whose genesis is a block of one transaction, which makes 50.
func Founded(every int) api.Rules {
	r := Rules(every)
	r.Genesis = Under(r.Genesis.Header, Made(0, 50))
	return r
}
