package window

import (
	"slices"
	"testing"

	"tallystick/api"
	"tallystick/chain"
	"tallystick/sample"
)

// entry is one block that somebody is asked for.
type entry struct{ block, peer, since int }

// plain is a table as the chapter tells of it.
type plain struct {
	all   []entry
	limit int
}

func (p *plain) find(block int) int {
	return slices.IndexFunc(p.all, func(e entry) bool { return e.block == block })
}

// blocks are those for which one is asked, rising.
func (p *plain) blocks(peer int) []int {
	var list []int
	for _, e := range p.all {
		if e.peer == peer {
			list = append(list, e.block)
		}
	}
	slices.Sort(list)
	return list
}

func (p *plain) ask(block, peer, now int) api.Errno {
	if p.find(block) >= 0 {
		return api.ErrTwice
	}
	if len(p.blocks(peer)) >= 16 {
		return api.ErrFull
	}
	p.all = append(p.all, entry{block, peer, now})
	return api.OK
}

// free: nobody is asked for a block any more: whether somebody was.
func (p *plain) free(block int) bool {
	at := p.find(block)
	if at >= 0 {
		p.all = slices.Delete(p.all, at, at+1)
	}
	return at >= 0
}

func (p *plain) got(block int) {
	if p.free(block) && p.limit > 20 {
		p.limit /= 2
	}
}

func (p *plain) drop(peer int) []int {
	list := p.blocks(peer)
	for _, block := range list {
		p.free(block)
	}
	return list
}

func (p *plain) late(now int) (int, bool) {
	var list []int
	for _, e := range p.all {
		if e.since+p.limit <= now {
			list = append(list, e.peer)
		}
	}
	if len(list) == 0 {
		return 0, false
	}
	if p.limit < 160 {
		p.limit *= 2
	}
	return slices.Min(list), true
}

// want goes through all headers, whatever their order is.
func (p *plain) want(c *chain.Chain, peer, best int) []int {
	var list []int
	for i := range c.Len() {
		height := c.Get(i).Height
		if best < 0 || best >= c.Len() || c.Get(best).Failed || !c.On(i, best) || c.On(i, c.Tip()) {
			continue
		}
		if c.Has(i) || p.find(i) >= 0 || height > c.Get(c.Tip()).Height+1024 {
			continue
		}
		list = append(list, i) // a parent is always ahead of those behind it
	}
	return list[:min(len(list), 16-len(p.blocks(peer)))]
}

// compare holds all that a table tells against the plain one.
func (p *plain) compare(t *testing.T, w *Table) {
	t.Helper()
	if w.Len() != len(p.all) || w.Limit() != p.limit {
		t.Fatalf("Len %d, Limit %d; want %d, %d", w.Len(), w.Limit(), len(p.all), p.limit)
	}
	for peer := -3; peer < 8; peer++ {
		if w.Count(peer) != len(p.blocks(peer)) {
			t.Fatalf("Count of %d: %d, want %d", peer, w.Count(peer), len(p.blocks(peer)))
		}
	}
	for block := -6; block < 75; block++ {
		var want entry
		at := p.find(block)
		if at >= 0 {
			want = p.all[at]
		}
		if who, ok := w.Asked(block); who != want.peer || ok != (at >= 0) {
			t.Fatalf("Asked of %d: %d, %v; want %d, %v", block, who, ok, want.peer, at >= 0)
		}
	}
}

// P18.1 and P18.2: any calls in any order are answered as the chapter says.
func TestAnyCalls(t *testing.T) {
	d := sample.Dice(1)
	told, limits, found := map[api.Errno]int{}, map[int]int{}, 0
	for range 100 {
		var w Table
		p := plain{limit: 20}
		now := d.Below(100) - 50
		for range 200 {
			now += d.Below(4)
			block, peer := d.Below(80)-5, d.Below(4)-1
			switch d.Below(24) {
			case 0:
				w.Free(block)
				p.free(block)
			case 1, 2, 3:
				w.Got(block)
				p.got(block)
			case 4:
				if d.Below(4) > 0 {
					continue
				}
				if got, want := w.Drop(peer), p.drop(peer); !slices.Equal(got, want) {
					t.Fatalf("Drop of %d: %d, want %d", peer, got, want)
				}
			case 5, 6:
				got, ok := w.Late(now)
				want, is := p.late(now)
				if got != want || ok != is {
					t.Fatalf("Late at %d: %d, %v; want %d, %v", now, got, ok, want, is)
				}
				if is {
					found++
				}
			default:
				at := now - d.Below(5)
				got, want := w.Ask(block, peer, at), p.ask(block, peer, at)
				if got != want {
					t.Fatalf("Ask of %d for %d: %v, want %v", peer, block, got, want)
				}
				told[got]++
			}
			p.compare(t, &w)
			limits[p.limit]++
		}
	}
	if told[api.OK] < 1000 || told[api.ErrTwice] < 1000 || told[api.ErrFull] < 300 || found < 300 {
		t.Errorf("Ask told %v, Late found somebody %d times", told, found)
	}
	for _, n := range []int{20, 40, 80, 160} {
		if limits[n] < 500 {
			t.Errorf("the Limit was %d %d times", n, limits[n])
		}
	}
}

// P18.3: of trees of any shape, whatever is there, is asked for or has failed.
func TestAnyWants(t *testing.T) {
	wanted, full, turned := 0, 0, 0
	for seed := range 40 {
		d := sample.Dice(seed)
		var parents []int
		for i := range 60 {
			parents = append(parents, max(d.Below(i+1), i-d.Below(2+seed%6)))
		}
		c := planted(t, parents...)
		var w Table
		p := plain{limit: 20}
		for range 120 {
			i, peer, tip := d.Below(c.Len()), d.Below(3), c.Tip()
			switch d.Below(4) {
			case 0:
				w.Free(i)
				p.free(i)
			case 1:
				w.Ask(i, peer, 0)
				p.ask(i, peer, 0)
			case 2:
				if !c.Has(i) && !c.Get(i).Failed {
					bring(t, c, i)
				}
			case 3:
				if list := p.want(c, 9, i); len(list) > 0 {
					bring(t, c, list[0])
				}
			}
			if d.Below(60) == 0 {
				c.Fail(i)
			}
			if !c.On(tip, c.Tip()) {
				turned++
			}
			for best := -1; best <= c.Len(); best++ {
				want := p.want(c, peer, best)
				if got := w.Want(c, peer, best); !slices.Equal(got, want) {
					t.Fatalf("Want of %d, up to %d: %d, want %d", peer, best, got, want)
				}
				wanted += len(want)
				if len(want) > 0 && len(want) == 16-w.Count(peer) {
					full++
				}
			}
		}
		p.compare(t, &w)
	}
	if wanted < 10000 || full < 1000 || turned < 20 {
		t.Errorf("%d were wanted, %d times as many as there was room, and another way was followed %d times", wanted, full, turned)
	}
}
