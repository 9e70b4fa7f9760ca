package chain

import (
	"reflect"
	"slices"
	"testing"

	"tallystick/api"
	"tallystick/check"
	"tallystick/coins"
	"tallystick/head"
	"tallystick/index"
	"tallystick/num"
	"tallystick/sample"
)

// plain is a chain as the chapter tells of it: all is looked for anew, from the genesis on.
type plain struct {
	*index.Tree
	bodies map[int]api.Block
	tip    int
	turned int // how often a way was followed that doesn't go on from the one ahead of it
	wrong  int // how many couldn't be connected
}

func begun(r api.Rules) *plain {
	tree, _ := index.New(r)
	return &plain{Tree: tree, bodies: map[int]api.Block{0: r.Genesis}}
}

func (p *plain) best(want func(i int) bool) int {
	best := -1
	for i := range p.Len() {
		if n := p.Get(i); !n.Failed && want(i) && (best < 0 || num.Cmp(n.Work, p.Get(best).Work) > 0) {
			best = i
		}
	}
	return best
}

func (p *plain) way(i int) []int {
	if i < 0 {
		return nil
	}
	return append(p.way(p.Get(i).Parent), i)
}

func (p *plain) ready(i int) bool {
	return !slices.ContainsFunc(p.way(i), func(at int) bool { _, ok := p.bodies[at]; return !ok })
}

// coins are what the way to a header leaves; and the first on it that can't be connected, or -1.
func (p *plain) coins(i int) (*coins.Set, int) {
	set := &coins.Set{}
	for height, at := range p.way(i) {
		if _, e := set.Connect(p.bodies[at], height, p.Rules().Subsidy); e != api.OK {
			return set, at
		}
	}
	return set, -1
}

func (p *plain) body(b api.Block) (int, api.Errno) {
	i, ok := p.Find(head.ID(b.Header))
	if !ok {
		return -1, api.ErrMissing
	}
	if p.Get(i).Failed {
		return -1, api.ErrFailed
	}
	if _, ok := p.bodies[i]; ok {
		return -1, api.ErrTwice
	}
	if e := check.Root(b); e != api.OK {
		return -1, e
	}
	if e := check.Block(b); e != api.OK {
		p.Fail(i)
		return -1, e
	}
	p.bodies[i] = b
	p.follow()
	return i, api.OK
}

func (p *plain) follow() {
	for {
		best := p.best(func(i int) bool { return p.ready(i) && num.Cmp(p.Get(i).Work, p.Get(p.tip).Work) > 0 })
		if best < 0 {
			return
		}
		if _, wrong := p.coins(best); wrong >= 0 {
			p.wrong++
			p.Fail(wrong)
			continue
		}
		if !p.On(p.tip, best) {
			p.turned++
		}
		p.tip = best
	}
}

// compare holds all that a chain tells against the plain one.
func (p *plain) compare(t *testing.T, c *Chain) {
	t.Helper()
	if c.Tip() != p.tip || c.Best() != p.best(func(int) bool { return true }) || c.Bodies() != len(p.bodies) || c.Len() != p.Len() {
		t.Fatalf("Tip %d, Best %d, Bodies %d, Len %d; want %d, %d, %d, %d", c.Tip(), c.Best(), c.Bodies(), c.Len(), p.tip, p.best(func(int) bool { return true }), len(p.bodies), p.Len())
	}
	if set, _ := p.coins(p.tip); !c.Coins().Same(set) {
		t.Fatalf("Coins: %v, want %v", c.Coins().All(), set.All())
	}
	for i := range p.Len() {
		want, there := p.bodies[i]
		got, ok := c.Block(i)
		if c.Has(i) != there || ok != there || !reflect.DeepEqual(got, want) {
			t.Fatalf("Block of %d: %v, %v, want %v, %v", i, got, ok, want, there)
		}
		if c.Get(i).Failed != p.Get(i).Failed {
			t.Fatalf("%d has failed: %v, want %v", i, c.Get(i).Failed, p.Get(i).Failed)
		}
	}
}

// right asks P14.4 of a chain.
func (p *plain) right(t *testing.T, before num.Num) {
	t.Helper()
	if num.Cmp(p.Get(p.tip).Work, before) < 0 {
		t.Fatal("the work of what is followed falls")
	}
	if _, wrong := p.coins(p.tip); wrong >= 0 || !p.ready(p.tip) {
		t.Fatal("what is followed isn't right")
	}
	for i := range p.Len() {
		if p.ready(i) && !p.Get(i).Failed && num.Cmp(p.Get(i).Work, p.Get(p.tip).Work) > 0 {
			if _, wrong := p.coins(i); wrong < 0 {
				t.Fatalf("%d is right, and has more work", i)
			}
		}
	}
}

// thrown is a block behind one of the last headers: right, or not quite.
func (p *plain) thrown(d *sample.Dice, pool []api.Block, mark int) api.Block {
	i := p.Len() - 1 - min(d.Below(p.Len()), d.Below(6))
	ahead := p.Get(i)
	txs := []api.Tx{sample.Made(mark, int64(d.Below(51)), 0)}
	for range max(d.Below(4)-1, 0) {
		txs = append(txs, p.spend(d, pool, i))
	}
	switch d.Below(50) {
	case 0:
		txs[0].Outs[0].Amount = 60
	case 1:
		txs[0].Outs[0].Amount = -1
	case 2:
		txs = append(txs, sample.Made(mark+1, 0))
	case 3:
		txs = nil
	}
	h := api.Header{Version: uint32(mark), Prev: ahead.ID, Time: ahead.Time + 1 + uint32(d.Below(30)), Bits: p.Next(i)}
	b := sample.Under(h, txs...)
	b.Header = sample.Mined(b.Header)
	return b
}

// spend is a transaction that spends one of the last outputs on the way to a header, which may be spent already; seldom too much of it.
func (p *plain) spend(d *sample.Dice, pool []api.Block, i int) api.Tx {
	id := p.Get(p.Ancestor(i, max(p.Get(i).Height-d.Below(4), 0))).ID
	at := slices.IndexFunc(pool, func(b api.Block) bool { return head.ID(b.Header) == id })
	if len(pool[at].Txs) == 0 {
		return sample.Moved(api.Tx{}, 0, 1)
	}
	from := pool[at].Txs[d.Below(len(pool[at].Txs))]
	out := d.Below(len(from.Outs))
	most := max(int(from.Outs[out].Amount), 0)
	if d.Below(30) == 0 {
		most++
	}
	some := d.Below(most + 1)
	return sample.Moved(from, out, int64(some), int64(most-some))
}

// brought is one of the blocks that were thrown, seldom one whose body is there, or that has failed.
func (p *plain) brought(d *sample.Dice, pool []api.Block) api.Block {
	b := pool[d.Below(len(pool))]
	for range d.Below(20) {
		if i, ok := p.Find(head.ID(b.Header)); ok && p.bodies[i].Txs == nil && !p.Get(i).Failed {
			break
		}
		b = pool[d.Below(len(pool))]
	}
	if d.Below(10) == 0 {
		return spoilt(d, b)
	}
	return b
}

// spoilt is a block with other transactions than its own.
func spoilt(d *sample.Dice, b api.Block) api.Block {
	switch n := len(b.Txs); d.Below(3) {
	case 0:
		b.Txs = append(slices.Clone(b.Txs), sample.Made(999, 0))
	case 1:
		b.Txs = b.Txs[:max(n-1, 0)]
	default:
		b.Txs = append(slices.Clone(b.Txs), b.Txs[max(n-1, 0):]...)
	}
	return b
}

// P14.1 to P14.4: whatever comes, in whatever order, a chain tells what the chapter says.
func TestAny(t *testing.T) {
	told := map[api.Errno]int{}
	turned, wrong := 0, 0
	for seed := range 50 {
		d := sample.Dice(seed)
		r := sample.Founded([]int{0, 3}[seed%2])
		c, e := New(r)
		if e != api.OK {
			t.Fatalf("New: %v", e)
		}
		p := begun(r)
		pool := []api.Block{r.Genesis}
		patience := 1 + d.Below(3) // how many headers come, about, to each body
		for mark := range 120 {
			before := p.Get(p.tip).Work
			if d.Below(patience+1) > 0 && p.Len() < 50 {
				b := p.thrown(&d, pool, mark*10+10)
				if d.Below(20) > 0 {
					one, e := p.Add(b.Header, late)
					two, f := c.Add(b.Header, late)
					if one != two || e != f {
						t.Fatalf("Add: %d, %v, want %d, %v", two, f, one, e)
					}
				}
				pool = append(pool, b)
			} else {
				b := p.brought(&d, pool)
				i, want := p.body(b)
				k, got := c.Body(b)
				if i != k || got != want {
					t.Fatalf("Body: %d, %v, want %d, %v", k, got, i, want)
				}
				told[got]++
			}
			if d.Below(100) == 0 {
				i := d.Below(p.Len())
				if c.Fail(i) != p.Fail(i) {
					t.Fatalf("Fail of %d", i)
				}
			}
			p.compare(t, c)
			p.right(t, before)
		}
		turned += p.turned
		wrong += p.wrong
	}
	for _, e := range []api.Errno{api.OK, api.ErrMissing, api.ErrFailed, api.ErrTwice, api.ErrRoot, api.ErrShape, api.ErrAmount} {
		if told[e] < 20 {
			t.Errorf("%v was told %d times", e, told[e])
		}
	}
	if turned < 20 || wrong < 20 {
		t.Errorf("another way was followed %d times, and %d couldn't be connected", turned, wrong)
	}
}
