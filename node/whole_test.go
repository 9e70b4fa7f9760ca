package node

import (
	"testing"

	"tallystick/api"
	"tallystick/crowd"
	"tallystick/frame"
	"tallystick/honest"
	"tallystick/sample"
)

// twice lets a peer say headers of which it is asked for 32 at a time, from the first on, and from the first on once more, up to a number of them.
func twice(n *Node, id int, blocks []api.Block, again int) {
	for _, part := range [][]api.Block{blocks, blocks[:again]} {
		for at := 0; at < len(part); at += 32 {
			n.Step(says(id, heads(part[at:min(at+32, len(part))]...)))
		}
	}
}

// P20.7: as much as can be is kept: bytes that aren't a frame yet, bits and headers, blocks that are asked for, and bans.
func TestMostSize(t *testing.T) {
	r := honest.Rules(1000)
	r.Spacing = 1 // so that none is too early
	blocks := honest.Chain(r, 999, 1)
	side := crowd.Behind(r, blocks, 0, 999, 2)
	n := fresh(t, r)
	for i := range 40 {
		n.Step(junk(come(t, n, i)))
	}
	size(t, n, 32)
	whole, e := frame.Encode(frame.Frame{Word: "abc", Data: make([]byte, frame.MaxData)})
	if e != api.OK {
		t.Fatal(e)
	}
	for i := range 8 {
		id := greet(t, n, 100+i)
		twice(n, id, blocks[1:], 999)
		flights(t, n, id, 16)
		twice(n, id, side[1:], 992)
		n.Step(Event{Kind: Data, Peer: id, Data: whole[:len(whole)-1]})
		scores(t, n, id, 0)
	}
	knows(t, n, 1+999+984)
	most := 8*(16408+256+8+16) + 32
	if got := n.Size(); got > most || got < most-8*(1+256-249) {
		t.Errorf("Size %d", got)
	}
	for range 20 {
		does(t, "more than eight", n, comes(1000))
	}
	if len(n.Peers()) != 8 {
		t.Errorf("Peers %d", n.Peers())
	}
	n.Step(ticks(1000))
	size(t, n, 0)
}

// rogues are what others do, one of them at a time: whoever is asked for something answers it wrongly, or not at all.
func rogues(r api.Rules, blocks []api.Block) []func(n *Node, o Out) []Event {
	low := crowd.Behind(r, blocks, 0, 96, 7)
	bad := crowd.Behind(r, blocks, 10, 50, 8, crowd.Wrongs()[1])
	worse := crowd.Behind(r, blocks, 10, 50, 9, crowd.Wrongs()[0])
	likes := func(way []api.Block) func(n *Node, o Out) []Event {
		model := honest.New(1<<52, way...)
		return func(n *Node, o Out) []Event { return []Event{says(o.Peer, model.Hear(o.Msg)...)} }
	}
	return []func(n *Node, o Out) []Event{
		func(*Node, Out) []Event { return nil },
		func(n *Node, o Out) []Event { return []Event{says(o.Peer, version, verack)} },
		func(n *Node, o Out) []Event { return []Event{says(o.Peer, version, verack, heads(blocks[1:33]...))} },
		func(n *Node, o Out) []Event { return []Event{says(o.Peer, version, verack, heads(low[1:33]...))} },
		func(n *Node, o Out) []Event {
			return []Event{says(o.Peer, version, verack, notFound(ids(blocks[1:64]...)...))}
		},
		func(n *Node, o Out) []Event {
			return []Event{says(o.Peer, blockList(blocks[1:20]...)...), junk(o.Peer)}
		},
		likes(low), likes(bad), likes(worse), likes(low[:40]), likes(blocks[:60]),
	}
}

// P20.8: whoever serves a chain and answers stays, whatever others do, and is followed.
func TestWhoServesStays(t *testing.T) {
	d := sample.Dice(8)
	for _, work := range []int{0, 50, 90} {
		r := honest.Rules(work)
		blocks := honest.Chain(r, 150, 1)
		n := fresh(t, r)
		model := honest.New(1<<53, blocks...)
		list := rogues(r, blocks)
		others := map[int]func(n *Node, o Out) []Event{}
		var good int
		run := func(e Event, who func(n *Node, o Out) []Event) {
			t.Helper()
			queue := []Event{e}
			for len(queue) > 0 {
				e, queue = queue[0], queue[1:]
				for _, o := range n.Step(e) {
					if _, ok := others[o.Peer]; !ok && o.Peer != good {
						others[o.Peer] = who
					}
					if o.Peer == good {
						queue = append(queue, says(good, model.Hear(o.Msg)...))
					} else if d.Below(3) > 0 && len(queue) < 200 {
						queue = append(queue, others[o.Peer](n, o)...)
					}
				}
				if good != 0 && (n.Score(good) != 0 || n.Banned(1000)) {
					t.Fatalf("Score %d, Banned %v", n.Score(good), n.Banned(1000))
				}
			}
		}
		for k := range 300 {
			if k >= 4 && good == 0 && len(n.Peers()) < 8 {
				good = n.last + 1
				run(comes(1000), nil)
			}
			run(comes(d.Below(500)), list[d.Below(len(list))])
			run(ticks(d.Below(9)), nil)
		}
		if good == 0 {
			t.Error("they weren't taken")
		}
		follows(t, n, blocks[150])
	}
}
