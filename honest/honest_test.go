package honest

import (
	"math"
	"reflect"
	"slices"
	"testing"

	"tallystick/api"
	"tallystick/head"
	"tallystick/msg"
	"tallystick/sample"
)

const nonce = 77

// served is a chain of a genesis and so many blocks, and one who serves it.
func served(t *testing.T, n int) ([]api.Block, *Model) {
	t.Helper()
	blocks := Chain(Rules(0), n, 1)
	if len(blocks) != n+1 {
		t.Fatalf("a chain of %d blocks", len(blocks))
	}
	return blocks, New(nonce, blocks...)
}

// names are those of blocks.
func names(blocks ...api.Block) []api.ID {
	var list []api.ID
	for _, b := range blocks {
		list = append(list, head.ID(b.Header))
	}
	return list
}

// headers are those of blocks.
func headers(blocks []api.Block) []api.Header {
	var list []api.Header
	for _, b := range blocks {
		list = append(list, b.Header)
	}
	return list
}

// hears holds what is answered to a message against what should be.
func hears(t *testing.T, what string, m *Model, x msg.Msg, want ...msg.Msg) {
	t.Helper()
	got := m.Hear(x)
	if len(got) != len(want) || len(want) > 0 && !reflect.DeepEqual(got, want) {
		t.Errorf("%s: %+v, want %+v", what, got, want)
	}
}

// heads holds which headers are answered against those that should be.
func heads(t *testing.T, what string, m *Model, names []api.ID, stop api.ID, want []api.Block) {
	t.Helper()
	hears(t, what, m, msg.Msg{Kind: msg.GetHeaders, Names: names, Stop: stop}, msg.Msg{Kind: msg.Headers, Heads: headers(want)})
}

// data holds which blocks are answered, and which names with a notfound, against what should be.
func data(t *testing.T, what string, m *Model, asked []api.ID, blocks []api.Block, others ...api.ID) {
	t.Helper()
	var want []msg.Msg
	for _, b := range blocks {
		want = append(want, msg.Msg{Kind: msg.Block, Block: b})
	}
	if len(others) > 0 {
		want = append(want, msg.Msg{Kind: msg.NotFound, Names: others})
	}
	hears(t, what, m, msg.Msg{Kind: msg.GetData, Names: asked}, want...)
}

// P19.1
func TestLen(t *testing.T) {
	if n := New(nonce).Len(); n != 0 {
		t.Errorf("Len of none: %d", n)
	}
	blocks, m := served(t, 3)
	if m.Len() != 4 {
		t.Errorf("Len of four: %d", m.Len())
	}
	if n := New(nonce, append(blocks, blocks...)...).Len(); n != 8 {
		t.Errorf("Len of four twice: %d", n)
	}
}

// P19.2: only the first version is answered, whatever else is said ahead of it.
func TestGreeting(t *testing.T) {
	for _, own := range []uint64{0, 1, nonce, math.MaxUint64} {
		for n := range 5 {
			m := New(own, Chain(Rules(0), 4, 1)[:n]...)
			hears(t, "a ping ahead of it", m, msg.Msg{Kind: msg.Ping, Nonce: 5}, msg.Msg{Kind: msg.Pong, Nonce: 5})
			hears(t, "a verack ahead of it", m, msg.Msg{Kind: msg.Verack})
			x := msg.Msg{Kind: msg.Version, Nonce: own, Height: 9}
			hears(t, "a version", m, x, msg.Msg{Kind: msg.Version, Nonce: own, Height: uint32(max(n-1, 0))}, msg.Msg{Kind: msg.Verack})
			for range 3 {
				hears(t, "a later version", m, x)
				x.Nonce++
			}
			hears(t, "a verack behind it", m, msg.Msg{Kind: msg.Verack})
		}
	}
}

// P19.2: a ping is answered with its own nonce; to all else nothing.
func TestPingAndAllElse(t *testing.T) {
	blocks, m := served(t, 3)
	for _, n := range []uint64{0, 1, nonce, 1 << 40, math.MaxUint64} {
		hears(t, "a ping", m, msg.Msg{Kind: msg.Ping, Nonce: n}, msg.Msg{Kind: msg.Pong, Nonce: n})
	}
	for _, kind := range []int{msg.Verack, msg.Headers, msg.Inv, msg.Block, msg.NotFound, msg.Pong, 0, -1, msg.Pong + 1, math.MinInt, math.MaxInt} {
		hears(t, "all else", m, msg.Msg{Kind: kind, Nonce: 3, Names: names(blocks...), Heads: headers(blocks), Block: blocks[2]})
	}
	hears(t, "a version behind all that", m, msg.Msg{Kind: msg.Version}, msg.Msg{Kind: msg.Version, Nonce: nonce, Height: 3}, msg.Msg{Kind: msg.Verack})
}

// P19.2, and the document's example: behind the first of the names that is known.
func TestHeads(t *testing.T) {
	blocks, m := served(t, 5)
	ids := names(blocks...)
	other, none := api.ID{1}, api.ID{}
	for i := range blocks {
		heads(t, "one name", m, ids[i:i+1], none, blocks[i+1:])
		heads(t, "one that is known behind others", m, []api.ID{other, none, ids[i], ids[0], ids[5]}, none, blocks[i+1:])
	}
	heads(t, "the first one, not the highest", m, []api.ID{ids[1], ids[4]}, none, blocks[2:])
	heads(t, "the first one, not the lowest", m, []api.ID{ids[4], ids[1]}, none, blocks[5:])
	heads(t, "no name", m, nil, none, blocks[1:])
	heads(t, "names that aren't known", m, []api.ID{other, none}, none, blocks[1:])
	three := Chain(Rules(0), 3, 2)
	if got := New(1, three[:3]...).Hear(msg.Msg{Kind: msg.GetHeaders}); len(got) != 1 || len(got[0].Heads) != 2 {
		t.Errorf("of a chain of three: %+v", got)
	}
}

// P19.2: up to the name Stop.
func TestStop(t *testing.T) {
	blocks, m := served(t, 40)
	ids := names(blocks...)
	for from := range blocks {
		for stop := range blocks {
			want := blocks[from+1 : min(from+33, len(blocks))]
			if stop < from+len(want) {
				want = blocks[min(from+1, stop+1) : stop+1]
			}
			if stop <= from {
				want = nil
			}
			heads(t, "up to one", m, ids[from:from+1], ids[stop], want)
		}
	}
	heads(t, "up to one, of no name", m, nil, ids[7], blocks[1:8])
	heads(t, "up to the first, of no name", m, nil, ids[0], nil)
	heads(t, "up to one that isn't known", m, ids[3:4], api.ID{9}, blocks[4:36])
}

// P19.2: 32 at most.
func TestMostHeads(t *testing.T) {
	blocks, _ := served(t, 70)
	ids := names(blocks...)
	for _, n := range []int{1, 2, 32, 33, 34, 65, 66, 71} {
		m := New(nonce, blocks[:n]...)
		for _, from := range []int{0, 1, 31, 32, 33, 64, 70} {
			want := blocks[min(1, n):min(33, n)] // as from the first one on, if it isn't served
			if from < n {
				want = blocks[from+1 : min(from+33, n)]
			}
			heads(t, "many", m, ids[from:from+1], api.ID{}, want)
		}
	}
}

// P19.2: blocks in the order of their names, and what there isn't at the end.
func TestData(t *testing.T) {
	blocks, m := served(t, 5)
	ids := names(blocks...)
	a, b := api.ID{1}, api.ID{2}
	data(t, "nothing", m, nil, nil)
	for i := range blocks {
		data(t, "one", m, ids[i:i+1], blocks[i:i+1])
	}
	data(t, "all", m, ids, blocks)
	data(t, "in another order", m, []api.ID{ids[4], ids[0], ids[2]}, []api.Block{blocks[4], blocks[0], blocks[2]})
	data(t, "one twice", m, []api.ID{ids[4], ids[4]}, []api.Block{blocks[4], blocks[4]})
	data(t, "one that isn't there", m, []api.ID{a}, nil, a)
	data(t, "some that aren't there", m, []api.ID{b, ids[3], a, ids[1], b}, []api.Block{blocks[3], blocks[1]}, b, a, b)
	long := Chain(Rules(0), 100, 3)
	many := names(long...)
	data(t, "more than a message has", New(1, long...), many, long)
	data(t, "more than a message has, of none", m, many[1:], nil, many[1:]...)
}

// P19.1 and P19.2: a name is that of the last block whose header has it.
func TestSameNames(t *testing.T) {
	blocks, _ := served(t, 4)
	bare := blocks[1]
	bare.Txs = nil
	m := New(nonce, blocks[0], blocks[1], blocks[2], bare, blocks[3], blocks[0], blocks[4])
	ids := names(blocks...)
	data(t, "the last one", m, ids[:3], []api.Block{blocks[0], bare, blocks[2]})
	heads(t, "behind the last one", m, ids[1:2], api.ID{}, []api.Block{blocks[3], blocks[0], blocks[4]})
	heads(t, "behind the last genesis", m, ids[:1], api.ID{}, []api.Block{blocks[4]})
	heads(t, "up to the last one", m, nil, ids[1], []api.Block{blocks[1], blocks[2], blocks[1]})
	heads(t, "up to one ahead of it", m, ids[1:2], ids[2], nil)
}

// P19.2: one who serves nothing answers, too.
func TestNoBlocks(t *testing.T) {
	m := New(5)
	a := api.ID{1}
	hears(t, "a version", m, msg.Msg{Kind: msg.Version}, msg.Msg{Kind: msg.Version, Nonce: 5}, msg.Msg{Kind: msg.Verack})
	heads(t, "no name", m, nil, api.ID{}, nil)
	heads(t, "a name", m, []api.ID{a}, a, nil)
	data(t, "a name", m, []api.ID{a, {}}, nil, a, api.ID{})
	hears(t, "a ping", m, msg.Msg{Kind: msg.Ping, Nonce: 8}, msg.Msg{Kind: msg.Pong, Nonce: 8})
}

// P1 and P19.2: blocks of any kind are served, whether they are right, and stand behind each other, or not.
func TestAnyBlocks(t *testing.T) {
	d := sample.Dice(19)
	for range 300 {
		var blocks []api.Block
		for range d.Below(50) {
			blocks = append(blocks, d.Block(d.Below(3), d.Below(5)))
			if d.Below(4) == 0 {
				blocks = append(blocks, blocks[d.Below(len(blocks))])
			}
		}
		m := New(uint64(d.Next()), blocks...)
		ids := names(blocks...)
		known := append(slices.Clone(ids), d.IDs(3)...)
		for range 10 {
			var list []api.ID
			for range d.Below(5) {
				list = append(list, known[d.Below(len(known))])
			}
			stop := known[d.Below(len(known))]
			heads(t, "any", m, list, stop, plainHeads(blocks, ids, list, stop))
			found, others := plainData(blocks, ids, list)
			data(t, "any", m, list, found, others...)
		}
	}
}

// last is the place of the last block of a name; -1: there is none.
func last(ids []api.ID, id api.ID) int {
	at := -1
	for i, name := range ids {
		if name == id {
			at = i
		}
	}
	return at
}

// plainHeads goes through all blocks, whose names are ids, as the chapter tells of them.
func plainHeads(blocks []api.Block, ids, list []api.ID, stop api.ID) []api.Block {
	from := 0
	for _, id := range slices.Backward(list) {
		if at := last(ids, id); at >= 0 {
			from = at
		}
	}
	var found []api.Block
	s := last(ids, stop)
	for i, b := range blocks {
		if i > from && len(found) < 32 && (s < 0 || i <= s) {
			found = append(found, b)
		}
	}
	return found
}

func plainData(blocks []api.Block, ids, list []api.ID) (found []api.Block, others []api.ID) {
	for _, id := range list {
		if at := last(ids, id); at >= 0 {
			found = append(found, blocks[at])
		} else {
			others = append(others, id)
		}
	}
	return found, others
}

// P2: what is handed in is neither changed nor kept, and what is answered is new.
func TestApart(t *testing.T) {
	want := Chain(Rules(0), 4, 1)
	blocks, m := served(t, 4)
	ids := names(want...)
	asked := append(make([]api.ID, 0, 9), ids[2], api.ID{7}, ids[2])
	ask := msg.Msg{Kind: msg.GetData, Names: asked}
	got := m.Hear(ask)
	if !slices.Equal(asked, []api.ID{ids[2], {7}, ids[2]}) || !reflect.DeepEqual(blocks, want) {
		t.Error("what was handed in is changed")
	}
	sample.Change(asked, api.ID{9})
	for i := range blocks {
		for _, x := range blocks[i].Txs {
			sample.ChangeTx(x)
		}
		sample.Change(blocks[i].Txs, api.Tx{})
	}
	sample.Change(blocks, api.Block{})
	for _, x := range got[0].Block.Txs {
		sample.ChangeTx(x)
	}
	if !reflect.DeepEqual(got[1].Block, want[2]) || !slices.Equal(got[2].Names, []api.ID{{7}}) {
		t.Error("an answer shares memory with another one, or with what was handed in")
	}
	data(t, "behind that", m, ids, want)
	one := m.Hear(msg.Msg{Kind: msg.GetHeaders})[0].Heads
	sample.Change(one, api.Header{})
	heads(t, "behind that", m, nil, api.ID{}, want[1:])
}
