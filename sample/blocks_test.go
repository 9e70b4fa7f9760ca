package sample

import (
	"crypto/sha256"
	"reflect"
	"testing"

	"tallystick/api"
	"tallystick/head"
)

// twice is the name of bytes.
func twice(b []byte) api.ID {
	once := sha256.Sum256(b)
	return sha256.Sum256(once[:])
}

func TestMade(t *testing.T) {
	one := Made(0x04030201, 5, 6)
	if in := one.Ins[0]; len(one.Ins) != 1 || in.Point != (api.Point{Index: 1<<32 - 1}) || string(in.Key) != "\x01\x02\x03\x04" {
		t.Errorf("what it spends: %+v", one.Ins)
	}
	lock := api.ID(sha256.Sum256([]byte(Key)))
	if want := []api.Out{{Amount: 5, Lock: lock}, {Amount: 6, Lock: lock}}; !reflect.DeepEqual(one.Outs, want) {
		t.Errorf("what it makes: %+v", one.Outs)
	}
	next := Moved(one, 1, 7)
	if in := next.Ins[0]; len(next.Ins) != 1 || in.Point != (api.Point{Tx: twice(TxBytes(one)), Index: 1}) || string(in.Key) != Key {
		t.Errorf("what the next one spends: %+v", next.Ins)
	}
	if len(next.Outs) != 1 || next.Outs[0] != (api.Out{Amount: 7, Lock: lock}) {
		t.Errorf("what the next one makes: %+v", next.Outs)
	}
}

func TestGrown(t *testing.T) {
	r := Founded(7)
	first := r.Genesis
	if first.Root != twice(TxBytes(first.Txs[0])) || first.Bits != r.Limit || r.Every != 7 {
		t.Errorf("the rules: %+v", r)
	}
	one, two := Made(1, 50), Moved(first.Txs[0], 0, 50)
	b := Grown(first.Header, 3, one, two)
	left, right := twice(TxBytes(one)), twice(TxBytes(two))
	if b.Root != twice(append(left[:], right[:]...)) || b.Prev != twice(HeaderBytes(first.Header)) || b.Version != 3 || b.Time <= first.Time {
		t.Errorf("a block: %+v", b)
	}
	if head.Proved(b.Header, Easy) != api.OK || len(b.Txs) != 2 {
		t.Errorf("a block: %+v", b)
	}
	if Under(b.Header).Root != (api.ID{}) {
		t.Error("a root of none")
	}
}
