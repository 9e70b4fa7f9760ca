// Package sample has what the layers' tests are made of: numbers that are the same in every run, transactions and blocks of them, their bytes, laid by none of the layers that are tried, and headers behind which work stands.
package sample

import "tallystick/api"

// Dice has numbers that are the same in every run.
type Dice uint32

// Next: the next number, from 0 on.
func (d *Dice) Next() int {
	*d = *d*1664525 + 1013904223
	return int(*d >> 8)
}

// Below: the next number below n, which is above 0.
func (d *Dice) Below(n int) int { return d.Next() % n }

// Text: so many bytes.
func (d *Dice) Text(n int) []byte {
	b := make([]byte, n)
	for i := range b {
		b[i] = byte(d.Next())
	}
	return b
}

// ID: a name.
func (d *Dice) ID() api.ID { return api.ID(d.Text(32)) }

// IDs: so many names.
func (d *Dice) IDs(n int) []api.ID {
	var list []api.ID
	for range n {
		list = append(list, d.ID())
	}
	return list
}

// Header: a header behind which no work stands.
func (d *Dice) Header() api.Header {
	return api.Header{Version: uint32(d.Next()), Prev: d.ID(), Root: d.ID(), Time: uint32(d.Next()), Bits: uint32(d.Next()), Nonce: uint32(d.Next())}
}

// Headers: so many of them.
func (d *Dice) Headers(n int) []api.Header {
	var list []api.Header
	for range n {
		list = append(list, d.Header())
	}
	return list
}

// Tx: a transaction with so many inputs, of keys of so many bytes, and so many outputs.
func (d *Dice) Tx(ins, outs, key int) api.Tx {
	var t api.Tx
	for range ins {
		t.Ins = append(t.Ins, api.In{Point: api.Point{Tx: d.ID(), Index: uint32(d.Next())<<8 | 5}, Key: d.Text(key)})
	}
	for range outs {
		t.Outs = append(t.Outs, api.Out{Amount: int64(d.Next())<<40 | int64(d.Next()), Lock: d.ID()})
	}
	return t
}

// Block: a block of so many transactions, each of an input, with a key of so many bytes, and an output: 79 bytes and the key's, if that is short.
func (d *Dice) Block(txs, key int) api.Block {
	b := api.Block{Header: d.Header()}
	for range txs {
		b.Txs = append(b.Txs, d.Tx(1, 1, key))
	}
	return b
}

// Number: the lowest so many bytes of n, the lowest first.
func Number(size int, n uint64) []byte {
	var b []byte
	for range size {
		b = append(b, byte(n))
		n >>= 8
	}
	return b
}

// Count: n, from 0 to 2^32 - 1, in its shortest form.
func Count(n int) []byte {
	switch {
	case n <= 252:
		return []byte{byte(n)}
	case n <= 65535:
		return append([]byte{253}, Number(2, uint64(n))...)
	}
	return append([]byte{254}, Number(4, uint64(n))...)
}

// HeaderBytes: a header's bytes.
func HeaderBytes(h api.Header) []byte {
	b := Number(4, uint64(h.Version))
	b = append(b, h.Prev[:]...)
	b = append(b, h.Root[:]...)
	for _, n := range []uint32{h.Time, h.Bits, h.Nonce} {
		b = append(b, Number(4, uint64(n))...)
	}
	return b
}

// TxBytes: a transaction's bytes.
func TxBytes(t api.Tx) []byte {
	b := Count(len(t.Ins))
	for _, in := range t.Ins {
		b = append(b, in.Point.Tx[:]...)
		b = append(b, Number(4, uint64(in.Point.Index))...)
		b = append(b, Count(len(in.Key))...)
		b = append(b, in.Key...)
	}
	b = append(b, Count(len(t.Outs))...)
	for _, out := range t.Outs {
		b = append(b, Number(8, uint64(out.Amount))...)
		b = append(b, out.Lock[:]...)
	}
	return b
}

// BlockBytes: a block's bytes.
func BlockBytes(block api.Block) []byte {
	b := append(HeaderBytes(block.Header), Count(len(block.Txs))...)
	for _, t := range block.Txs {
		b = append(b, TxBytes(t)...)
	}
	return b
}

// Change goes over all that a list has, its spare room too.
func Change[T any](list []T, to T) {
	wide := list[:cap(list)]
	for i := range wide {
		wide[i] = to
	}
}

// ChangeTx goes over all that a transaction has.
func ChangeTx(t api.Tx) {
	for _, in := range t.Ins {
		Change(in.Key, 0xee)
	}
	Change(t.Ins, api.In{Key: []byte("other")})
	Change(t.Outs, api.Out{Amount: 77})
}
