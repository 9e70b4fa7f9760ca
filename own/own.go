// Package own makes copies that share no memory with what they are made of.
package own

import (
	"slices"

	"tallystick/api"
)

// Txs: the same transactions, apart down to their keys.
func Txs(list []api.Tx) []api.Tx {
	txs := slices.Clone(list)
	for i, x := range txs {
		ins := slices.Clone(x.Ins)
		for k, in := range ins {
			ins[k].Key = slices.Clone(in.Key)
		}
		txs[i] = api.Tx{Ins: ins, Outs: slices.Clone(x.Outs)}
	}
	return txs
}
