package own

import (
	"reflect"
	"testing"

	"tallystick/api"
	"tallystick/sample"
)

func TestTxs(t *testing.T) {
	dice := func() []api.Tx {
		d := sample.Dice(3)
		return []api.Tx{d.Tx(2, 3, 4), {}, d.Tx(0, 1, 0), d.Tx(1, 0, 0), {Ins: []api.In{{}}, Outs: []api.Out{}}}
	}
	list := dice()
	copied := Txs(list)
	if !reflect.DeepEqual(copied, list) {
		t.Fatalf("copied: %v, want %v", copied, list)
	}
	again := Txs(copied)
	for _, x := range copied {
		sample.ChangeTx(x)
	}
	sample.Change(copied, api.Tx{Outs: []api.Out{{Amount: 3}}})
	if !reflect.DeepEqual(list, dice()) || !reflect.DeepEqual(again, dice()) {
		t.Error("what was copied shares memory with the copy")
	}
	for _, none := range [][]api.Tx{nil, {}} {
		if got := Txs(none); len(got) != 0 {
			t.Errorf("copied of none: %v", got)
		}
	}
}
