package sample

import (
	"bytes"
	"encoding/binary"
	"slices"
	"testing"

	"tallystick/api"
	"tallystick/head"
)

func TestDice(t *testing.T) {
	one, two := Dice(5), Dice(5)
	if !bytes.Equal(one.Text(100), two.Text(100)) || one.ID() == two.IDs(2)[1] {
		t.Error("the numbers aren't the same in every run")
	}
	seen := map[int]bool{}
	for range 1000 {
		seen[one.Below(10)] = true
	}
	if len(seen) != 10 || seen[-1] || seen[10] {
		t.Errorf("numbers below 10: %v", seen)
	}
}

func TestNumbers(t *testing.T) {
	for _, n := range []uint64{0, 1, 255, 256, 0x0102030405060708, 1<<64 - 1} {
		want := binary.LittleEndian.AppendUint64(nil, n)
		for size := range 9 {
			if !bytes.Equal(Number(size, n), want[:size]) {
				t.Errorf("%d bytes of %d: %x", size, n, Number(size, n))
			}
		}
	}
	for n, want := range map[int]string{0: "\x00", 252: "\xfc", 253: "\xfd\xfd\x00", 65535: "\xfd\xff\xff", 65536: "\xfe\x00\x00\x01\x00"} {
		if string(Count(n)) != want {
			t.Errorf("the count of %d: %x", n, Count(n))
		}
	}
}

func TestBytes(t *testing.T) {
	h := api.Header{Version: 0x04030201, Prev: api.ID{5}, Root: api.ID{6}, Time: 7, Bits: 8, Nonce: 9}
	none := make([]byte, 31)
	want := slices.Concat([]byte{1, 2, 3, 4}, []byte{5}, none, []byte{6}, none, []byte{7, 0, 0, 0}, []byte{8, 0, 0, 0}, []byte{9, 0, 0, 0})
	if !bytes.Equal(HeaderBytes(h), want) {
		t.Errorf("a header's bytes: %x", HeaderBytes(h))
	}
	x := api.Tx{Ins: []api.In{{Point: api.Point{Tx: api.ID{1}, Index: 2}, Key: []byte("k")}}, Outs: []api.Out{{Amount: -1, Lock: api.ID{3}}}}
	laid := slices.Concat([]byte{1, 1}, none, []byte{2, 0, 0, 0, 1, 'k', 1}, slices.Repeat([]byte{255}, 8), []byte{3}, none)
	if !bytes.Equal(TxBytes(x), laid) {
		t.Errorf("a transaction's bytes: %x", TxBytes(x))
	}
	if got := BlockBytes(api.Block{Header: h, Txs: []api.Tx{x, x}}); !bytes.Equal(got, slices.Concat(want, []byte{2}, laid, laid)) {
		t.Errorf("a block's bytes: %x", got)
	}
	d := Dice(3)
	if b := d.Block(3, 7); len(BlockBytes(b)) != 81+3*86 || d.Headers(2)[1] == b.Header {
		t.Errorf("a block of three: %x", BlockBytes(b))
	}
}

func TestChange(t *testing.T) {
	list := append(make([]int, 0, 10), 1, 2)
	Change(list, 5)
	for _, n := range list[:10] {
		if n != 5 {
			t.Errorf("a list that was changed: %v", list[:10])
		}
	}
	d := Dice(4)
	x, y := d.Tx(2, 2, 3), Dice(4)
	key := x.Ins[1].Key
	ChangeTx(x)
	if string(key) != "\xee\xee\xee" || bytes.Equal(TxBytes(x), TxBytes(y.Tx(2, 2, 3))) {
		t.Error("a transaction that was changed is the same")
	}
}

func TestBehind(t *testing.T) {
	r := Rules(7)
	first := r.Genesis.Header
	one, other := Behind(first, 1), Behind(first, 2)
	if r.Every != 7 || r.Limit != first.Bits || one == other {
		t.Errorf("%+v, and behind its genesis %+v and %+v", r, one, other)
	}
	for _, h := range []api.Header{one, other, Behind(one, 1)} {
		if head.Proved(h, Easy) != api.OK || h.Bits != Easy || h.Time <= first.Time {
			t.Errorf("a header behind one: %+v", h)
		}
	}
	if one.Prev != head.ID(first) || Behind(one, 1).Prev != head.ID(one) {
		t.Error("headers that are behind others")
	}
	if got := Mined(api.Header{}); got != (api.Header{}) {
		t.Errorf("without bits: %+v", got)
	}
}
