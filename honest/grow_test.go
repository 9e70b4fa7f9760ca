package honest

import (
	"bytes"
	"crypto/sha256"
	"math"
	"reflect"
	"testing"

	"tallystick/api"
	"tallystick/chain"
	"tallystick/check"
	"tallystick/head"
	"tallystick/merkle"
	"tallystick/sample"
)

// name is that of bytes.
func name(b []byte) api.ID {
	once := sha256.Sum256(b)
	return sha256.Sum256(once[:])
}

// rooted is the root of transactions.
func rooted(list ...api.Tx) api.ID {
	var ids []api.ID
	for _, x := range list {
		ids = append(ids, name(sample.TxBytes(x)))
	}
	root, _ := merkle.Root(ids...)
	return root
}

// P19.3: the key has the height, the lowest byte first, and the mark.
func TestFirst(t *testing.T) {
	for _, subsidy := range []int64{0, 1, 50, 1 << 50, math.MaxInt64, -1, math.MinInt64} {
		for height, low := range map[int][]byte{0: {0, 0}, 1: {1, 0}, 255: {255, 0}, 256: {0, 1}, 0x1234: {0x34, 0x12}, 65535: {255, 255}, 65536: {0, 0}, 0x56789a: {0x9a, 0x78}} {
			for _, mark := range []byte{0, 1, 7, 255} {
				in := api.In{Point: api.Point{Index: math.MaxUint32}, Key: append(low[:2:2], mark)}
				out := api.Out{Amount: subsidy, Lock: sha256.Sum256([]byte{mark})}
				want := api.Tx{Ins: []api.In{in}, Outs: []api.Out{out}}
				if got := First(api.Rules{Subsidy: subsidy}, height, mark); !reflect.DeepEqual(got, want) {
					t.Errorf("First of %d, %d, %d: %+v", subsidy, height, mark, got)
				}
			}
		}
	}
	for _, height := range []int{-1, -256, math.MinInt, math.MaxInt} {
		if got := First(api.Rules{}, height, 3); len(got.Ins) != 1 || len(got.Ins[0].Key) != 3 || got.Ins[0].Key[2] != 3 {
			t.Errorf("First of %d: %+v", height, got)
		}
	}
}

// grown holds what Grow answers against what it should.
func grown(t *testing.T, r api.Rules, prev api.Header, height int, mark byte, more ...api.Tx) api.Block {
	t.Helper()
	b, ok := Grow(r, prev, height, mark, more...)
	txs := append([]api.Tx{First(r, height, mark)}, more...)
	h := api.Header{Version: 1, Prev: name(sample.HeaderBytes(prev)), Root: rooted(txs...), Time: prev.Time + uint32(r.Spacing), Bits: prev.Bits}
	for head.Proved(h, r.Limit) != api.OK {
		h.Nonce++
	}
	if !ok || b.Header != h || !reflect.DeepEqual(b.Txs, txs) {
		t.Errorf("Grow of %d behind %+v: %v, %+v, want %+v", height, prev, ok, b, h)
	}
	return b
}

// P19.3: the first nonce that is proved, from 0 on.
func TestGrow(t *testing.T) {
	r := Rules(0)
	prev := r.Genesis.Header
	for height := 1; height < 20; height++ {
		more := []api.Tx{sample.Made(height, 1, 2), sample.Made(100, int64(height))}[:height%3]
		prev = grown(t, r, prev, height, byte(height/2), more...).Header
	}
	d := sample.Dice(4)
	for range 50 {
		h := d.Header()
		h.Bits = []uint32{easy, 0x203fffff, 0x20100000, 0x1f7fffff}[d.Below(4)]
		r.Spacing = d.Next()
		grown(t, r, h, d.Next(), byte(d.Next()), d.Tx(2, 1, 3))
	}
}

// P19.3: times turn over at 2^32.
func TestTime(t *testing.T) {
	r := Rules(0)
	for _, x := range []struct {
		time    uint32
		spacing int
		want    uint32
	}{{0, 10, 10}, {math.MaxUint32, 10, 9}, {math.MaxUint32 - 10, 10, math.MaxUint32}, {5, 1 << 20, 5 + 1<<20}, {5, -1, 4}, {5, 1 << 32, 5}, {5, math.MaxInt, 4}} {
		prev := api.Header{Time: x.time, Bits: easy}
		r.Spacing = x.spacing
		if b, ok := Grow(r, prev, 1, 0); !ok || b.Time != x.want {
			t.Errorf("%d behind %d: %d, %v", x.spacing, x.time, b.Time, ok)
		}
	}
}

// P19.3: the nonces go up to 4095; where none is proved, there is no header.
func TestTries(t *testing.T) {
	hard := uint32(0x1f200000) // about one of 2048 is proved
	r := Rules(0)
	found, highest := 0, uint32(0)
	for mark := range 60 {
		b, ok := Grow(r, api.Header{Bits: hard}, mark, byte(mark))
		want, there := head.Mine(api.Header{Version: 1, Prev: head.ID(api.Header{Bits: hard}), Root: rooted(First(r, mark, byte(mark))), Time: 10, Bits: hard}, easy, 4096)
		if ok != there || b.Header != want {
			t.Errorf("%d: %v, %+v, want %v, %+v", mark, ok, b.Header, there, want)
		}
		if ok {
			found, highest = found+1, max(highest, b.Nonce)
		}
	}
	if found < 30 || found == 60 || highest < 3000 || highest > 4095 {
		t.Errorf("%d of 60 are found, with a nonce of %d at most", found, highest)
	}
}

// P19.3: what can't be proved at all.
func TestCannotGrow(t *testing.T) {
	r := Rules(0)
	for _, bits := range []uint32{0, 1, 0x20800000, 0x217fffff, math.MaxUint32, 0x03000001} {
		if b, ok := Grow(r, api.Header{Bits: bits}, 1, 0); ok || b.Header != (api.Header{}) {
			t.Errorf("the bits %x: %v, %+v", bits, ok, b.Header)
		}
	}
	harder := r
	harder.Limit = 0x203fffff
	if b, ok := Grow(harder, r.Genesis.Header, 1, 0); ok || b.Header != (api.Header{}) {
		t.Errorf("above the limit: %v, %+v", ok, b.Header)
	}
	for _, wrong := range []uint32{0, math.MaxUint32} {
		harder.Limit = wrong
		if b, ok := Grow(harder, r.Genesis.Header, 1, 0); ok || b.Header != (api.Header{}) {
			t.Errorf("the limit %x: %v, %+v", wrong, ok, b.Header)
		}
		if blocks := Chain(harder, 5, 0); !reflect.DeepEqual(blocks, []api.Block{r.Genesis}) {
			t.Errorf("a chain by the limit %x: %d blocks", wrong, len(blocks))
		}
	}
}

// P19.3
func TestChain(t *testing.T) {
	for _, n := range []int{math.MinInt, -1, 0, 1, 2, 5, 40} {
		for _, mark := range []byte{0, 1, 200} {
			r := Rules(3)
			blocks := Chain(r, n, mark)
			if len(blocks) != max(n, 0)+1 || !reflect.DeepEqual(blocks[0], r.Genesis) {
				t.Fatalf("Chain of %d: %d blocks", n, len(blocks))
			}
			for i := 1; i < len(blocks); i++ {
				want, _ := Grow(r, blocks[i-1].Header, i, mark)
				if !reflect.DeepEqual(blocks[i], want) {
					t.Errorf("Chain of %d: the %d-th is %+v", n, i, blocks[i])
				}
			}
		}
	}
}

// P19.3: a chain ends ahead of the first block that can't be.
func TestChainThatEnds(t *testing.T) {
	r := Rules(0)
	r.Limit = 0x1f400000 // about one of 1024 is proved
	r.Genesis.Bits = r.Limit
	ended := 0
	for mark := range 6 {
		blocks := Chain(r, 90, byte(mark))
		if len(blocks) == 91 {
			continue
		}
		ended++
		last := len(blocks) - 1
		if _, ok := Grow(r, blocks[last].Header, last+1, byte(mark)); ok {
			t.Errorf("a chain of %d blocks ends, though another one can be", len(blocks))
		}
	}
	if ended == 0 {
		t.Error("all chains are whole")
	}
}

// P19.3: the blocks of a chain are right, and followed.
func TestChainIsFollowed(t *testing.T) {
	r := Rules(3)
	c, e := chain.New(r)
	if e != api.OK {
		t.Fatalf("New: %v", e)
	}
	for i, b := range Chain(r, 300, 5)[1:] {
		if at, e := c.Add(b.Header, 10000); at != i+1 || e != api.OK {
			t.Fatalf("Add of %d: %d, %v", i+1, at, e)
		}
		if at, e := c.Body(b); at != i+1 || e != api.OK || c.Tip() != i+1 {
			t.Fatalf("Body of %d: %d, %v; the last one that is followed: %d", i+1, at, e, c.Tip())
		}
	}
	if c.Coins().Len() != 301 {
		t.Errorf("%d coins", c.Coins().Len())
	}
}

// P19.3
func TestRules(t *testing.T) {
	for _, work := range []int{math.MinInt, -1, 0, 1, 3, 1000, math.MaxInt} {
		first := First(api.Rules{Subsidy: 50}, 0, 0)
		genesis := api.Block{Header: api.Header{Root: rooted(first), Bits: 0x207fffff}, Txs: []api.Tx{first}}
		want := api.Rules{Limit: 0x207fffff, Spacing: 10, Subsidy: 50, Work: work, Genesis: genesis}
		if got := Rules(work); !reflect.DeepEqual(got, want) {
			t.Errorf("Rules of %d: %+v", work, got)
		}
	}
	if e := check.Block(Rules(0).Genesis); e != api.OK {
		t.Errorf("the genesis: %v", e)
	}
}

// P2: what is handed in is neither changed nor kept, and what is answered is new.
func TestGrowApart(t *testing.T) {
	r := Rules(0)
	more := append(make([]api.Tx, 0, 5), sample.Made(1, 5), sample.Made(2, 6))
	b, _ := Grow(r, r.Genesis.Header, 1, 1, more...)
	again, _ := Grow(r, r.Genesis.Header, 1, 1, more...)
	if !reflect.DeepEqual(more, []api.Tx{sample.Made(1, 5), sample.Made(2, 6)}) {
		t.Error("what was handed in is changed")
	}
	for _, x := range append(more, b.Txs...) {
		sample.ChangeTx(x)
	}
	sample.Change(more, api.Tx{})
	sample.Change(b.Txs, api.Tx{})
	if fresh, _ := Grow(r, r.Genesis.Header, 1, 1, sample.Made(1, 5), sample.Made(2, 6)); !reflect.DeepEqual(again, fresh) {
		t.Error("an answer shares memory with another one, or with what was handed in")
	}
	blocks := Chain(r, 3, 1)
	for _, x := range append(r.Genesis.Txs, blocks[2].Txs...) {
		sample.ChangeTx(x)
	}
	if !reflect.DeepEqual(blocks[0], Rules(0).Genesis) || !reflect.DeepEqual(blocks[3], Chain(Rules(0), 3, 1)[3]) {
		t.Error("a chain shares memory with its rules, or its blocks with each other")
	}
	if x := First(r, 1, 1); !bytes.Equal(x.Ins[0].Key, []byte{1, 0, 1}) {
		t.Errorf("First: %+v", x)
	}
}
