package crowd

import (
	"bytes"
	"reflect"
	"slices"
	"testing"

	"tallystick/api"
	"tallystick/chain"
	"tallystick/head"
	"tallystick/honest"
	"tallystick/msg"
	"tallystick/sample"
)

// follows tells whether a way's blocks are all followed, one behind the other, whenever they come.
func follows(t *testing.T, c *Crowd, way []api.Block) bool {
	t.Helper()
	kept, e := chain.New(c.Rules)
	if e != api.OK {
		t.Fatal(e)
	}
	for _, b := range way[1:] {
		if _, e := kept.Add(b.Header, int64(b.Time)); e != api.OK {
			return false
		}
		kept.Body(b)
	}
	return kept.Tip() == len(way)-1
}

func TestWays(t *testing.T) {
	d := sample.Dice(1)
	for range 30 {
		c := New(&d)
		if len(c.Ways) <= c.Right || c.Right < 3 {
			t.Fatalf("%d ways, %d of them right", len(c.Ways), c.Right)
		}
		for i, way := range c.Ways {
			if c.Rules.Every == 0 && follows(t, c, way) != (i < c.Right) {
				t.Errorf("the way %d: %v", i, follows(t, c, way))
			}
		}
		if len(c.Names(0)) != 0 || len(c.Names(9)) > 9 {
			t.Error("too many names")
		}
	}
}

func TestBehind(t *testing.T) {
	r := honest.Rules(0)
	blocks := honest.Chain(r, 5, 1)
	more := Wrongs()[0]
	way := Behind(r, blocks, 3, 2, 2, more)
	if len(way) != 6 || !reflect.DeepEqual(way[:4], blocks[:4]) || way[4].Prev != head.ID(blocks[3].Header) || way[5].Prev != head.ID(way[4].Header) {
		t.Errorf("two blocks behind the third: %d in all", len(way))
	}
	if len(way[4].Txs) != 2 || len(way[5].Txs) != 1 || head.ID(way[4].Header) == head.ID(blocks[4].Header) {
		t.Errorf("their transactions: %d, %d", len(way[4].Txs), len(way[5].Txs))
	}
	r.Limit = 0
	if got := Behind(r, blocks, 3, 2, 2); len(got) != 4 {
		t.Errorf("where none can be grown: %d", len(got))
	}
}

// Whatever is said can be laid, and its pieces are the whole; what is served doesn't change by it.
func TestSays(t *testing.T) {
	d := sample.Dice(2)
	c := New(&d)
	model, twin := honest.New(1, c.Ways[1]...), honest.New(1, c.Ways[1]...)
	kinds := map[int]int{}
	spoiled, parted := 0, 0
	for range 3000 {
		x := c.Chatter()
		list := c.Spoiled(model.Hear(x), x)
		for _, m := range append(slices.Clone(list), x) {
			kinds[m.Kind]++
		}
		want := twin.Hear(x)
		if len(list) != len(want) || len(want) > 0 && !reflect.DeepEqual(list, want) {
			spoiled++
		}
		b := Laid(append(list, x)...)
		if len(b) == 0 {
			t.Fatalf("can't be laid: %+v", list)
		}
		pieces := c.Pieces(b)
		if len(pieces) > 1 {
			parted++
		}
		if !bytes.Equal(bytes.Join(pieces, nil), b) {
			t.Fatal("pieces that aren't the whole")
		}
	}
	for kind := msg.Version; kind <= msg.Pong; kind++ {
		if kinds[kind] < 20 {
			t.Errorf("the kind %d: %d times", kind, kinds[kind])
		}
	}
	if spoiled < 100 || parted < 500 || len(c.Pieces(nil)) != 0 {
		t.Errorf("spoiled %d times, in pieces %d times", spoiled, parted)
	}
	if Laid(msg.Msg{}) != nil {
		t.Error("a message that can't be laid")
	}
}
