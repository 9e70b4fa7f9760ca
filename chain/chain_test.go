package chain

import (
	"math"
	"reflect"
	"slices"
	"testing"

	"tallystick/api"
	"tallystick/check"
	"tallystick/coins"
	"tallystick/head"
	"tallystick/index"
	"tallystick/num"
	"tallystick/sample"
	"tallystick/tx"
)

const late = math.MaxInt64

// founded is a chain of a genesis whose transaction makes 50.
func founded(t *testing.T) *Chain {
	t.Helper()
	c, e := New(sample.Founded(0))
	if e != api.OK || c == nil {
		t.Fatalf("New: %v", e)
	}
	return c
}

// makes is a transaction that makes 50, by a mark of the first of a block.
func makes(mark int) api.Tx { return sample.Made(mark, 50) }

// tooMuch is one that makes more than may be.
func tooMuch(mark int) api.Tx { return sample.Made(mark, 51) }

// behind is a block behind the i-th; its header stands in the tree from now on, its body not yet.
func behind(t *testing.T, c *Chain, i, mark int, txs ...api.Tx) api.Block {
	t.Helper()
	b := sample.Grown(c.Get(i).Header, mark, txs...)
	if k, e := c.Add(b.Header, late); e != api.OK || k != c.Len()-1 {
		t.Fatalf("Add behind %d: %d, %v", i, k, e)
	}
	return b
}

// row is so many blocks behind the i-th, each behind the one ahead of it.
func row(t *testing.T, c *Chain, i, n, mark int) []api.Block {
	t.Helper()
	var list []api.Block
	for k := range n {
		list = append(list, behind(t, c, i, mark+k, makes(mark+k)))
		i = c.Len() - 1
	}
	return list
}

// bring lets the bodies of blocks come, in order.
func bring(t *testing.T, c *Chain, list ...api.Block) {
	t.Helper()
	for _, b := range list {
		brought(t, c, b, api.OK)
	}
}

// brought holds what Body answers of one block against what is wanted.
func brought(t *testing.T, c *Chain, b api.Block, want api.Errno) {
	t.Helper()
	number := -1
	if i, ok := c.Find(head.ID(b.Header)); ok && want == api.OK {
		number = i
	}
	bodies := c.Bodies()
	if i, e := c.Body(b); i != number || e != want {
		t.Fatalf("Body: %d, %v, want %d, %v", i, e, number, want)
	}
	if want == api.OK {
		bodies++
	}
	if c.Bodies() != bodies {
		t.Fatalf("Bodies: %d, want %d", c.Bodies(), bodies)
	}
}

// follows asks whether the way to a header is followed, and what else hangs on that.
func follows(t *testing.T, c *Chain, tip int) {
	t.Helper()
	if c.Tip() != tip {
		t.Fatalf("Tip: %d, want %d", c.Tip(), tip)
	}
	var want coins.Set
	for height := range c.Get(tip).Height + 1 {
		b, ok := c.Block(c.Ancestor(tip, height))
		if !ok {
			t.Fatalf("no body at the height %d of the way that is followed", height)
		}
		if _, e := want.Connect(b, height, c.Rules().Subsidy); e != api.OK {
			t.Fatalf("what is followed can't be connected at the height %d: %v", height, e)
		}
	}
	if got := c.Coins(); !got.Same(&want) {
		t.Fatalf("Coins: %v, want %v", got.All(), want.All())
	}
}

// failed asks whether just these headers have failed.
func failed(t *testing.T, c *Chain, want ...int) {
	t.Helper()
	var got []int
	for i := range c.Len() {
		if c.Get(i).Failed {
			got = append(got, i)
		}
	}
	if !slices.Equal(got, want) {
		t.Fatalf("failed are %v, want %v", got, want)
	}
}

// P14.1: what New refuses, and the first that it tells.
func TestNewOfWrongRules(t *testing.T) {
	spend := sample.Moved(makes(9), 0, 1)
	under := func(r *api.Rules, txs ...api.Tx) { r.Genesis = sample.Under(r.Genesis.Header, txs...) }
	for what, x := range map[string]struct {
		change func(r *api.Rules)
		want   api.Errno
	}{
		"as they may be":                {func(r *api.Rules) {}, api.OK},
		"no limit":                      {func(r *api.Rules) { r.Limit = 0 }, api.ErrBits},
		"a range":                       {func(r *api.Rules) { r.Spacing = 0 }, api.ErrRange},
		"a range ahead of the genesis":  {func(r *api.Rules) { r.Every = -1; r.Genesis.Txs = nil }, api.ErrRange},
		"a subsidy below 0":             {func(r *api.Rules) { r.Subsidy = -1 }, api.ErrRange},
		"no transactions":               {func(r *api.Rules) { under(r) }, api.ErrShape},
		"another root":                  {func(r *api.Rules) { r.Genesis.Root[31]++ }, api.ErrRoot},
		"a block ahead of its amounts":  {func(r *api.Rules) { under(r, tooMuch(0)); r.Genesis.Root[0]++ }, api.ErrRoot},
		"a first that spends something": {func(r *api.Rules) { under(r, spend) }, api.ErrShape},
		"an amount below 0":             {func(r *api.Rules) { under(r, sample.Made(0, -1)) }, api.ErrAmount},
		"less than may be":              {func(r *api.Rules) { under(r, sample.Made(0, 49, 0)) }, api.OK},
		"more than may be":              {func(r *api.Rules) { under(r, tooMuch(0)) }, api.ErrAmount},
		"more than a smaller subsidy":   {func(r *api.Rules) { r.Subsidy = 49 }, api.ErrAmount},
		"what a greater one may be":     {func(r *api.Rules) { r.Subsidy = 51; under(r, tooMuch(0)) }, api.OK},
		"nothing":                       {func(r *api.Rules) { r.Subsidy = 0; under(r, sample.Made(0, 0)) }, api.OK},
		"one that spends what isn't":    {func(r *api.Rules) { under(r, makes(0), spend) }, api.ErrSpent},
		"one that spends what it makes": {func(r *api.Rules) { under(r, makes(0), sample.Moved(makes(0), 0, 1)) }, api.ErrSpent},
	} {
		r := sample.Founded(0)
		x.change(&r)
		c, e := New(r)
		if e != x.want || (c == nil) != (x.want != api.OK) {
			t.Errorf("New of %s: %v, %v, want %v", what, c, e, x.want)
		}
		if x.want == api.OK && (c.Rules().Subsidy != r.Subsidy || c.Coins().Len() != len(r.Genesis.Txs[0].Outs)) {
			t.Errorf("New of %s: %v", what, c.Coins().All())
		}
	}
}

// P14.1: the genesis alone.
func TestNew(t *testing.T) {
	r := sample.Founded(3)
	c, e := New(r)
	if e != api.OK {
		t.Fatalf("New: %v", e)
	}
	if c.Tip() != 0 || c.Best() != 0 || c.Bodies() != 1 || c.Len() != 1 || !reflect.DeepEqual(c.Rules(), r) {
		t.Errorf("New: %d %d %d %d", c.Tip(), c.Best(), c.Bodies(), c.Len())
	}
	if b, ok := c.Block(0); !ok || !reflect.DeepEqual(b, r.Genesis) {
		t.Errorf("the genesis: %v, %v", b, ok)
	}
	want := map[api.Point]coins.Coin{sample.At(makes(0), 0): {Out: sample.Outs(50)[0]}}
	if got := c.Coins().All(); !reflect.DeepEqual(got, want) {
		t.Errorf("Coins: %v, want %v", got, want)
	}
	follows(t, c, 0)
	if head.Proved(r.Genesis.Header, r.Limit) == api.OK {
		t.Error("work stands behind the genesis, though none must")
	}
}

// P14.1: Has and Block of numbers of all kinds.
func TestHas(t *testing.T) {
	c := founded(t)
	list := row(t, c, 0, 3, 1)
	bring(t, c, list[1], list[0])
	for i, want := range map[int]bool{math.MinInt: false, -1: false, 0: true, 1: true, 2: true, 3: false, 4: false, math.MaxInt: false} {
		b, ok := c.Block(i)
		if c.Has(i) != want || ok != want {
			t.Errorf("Has and Block of %d: %v, %v", i, c.Has(i), ok)
		}
		if !want && !reflect.DeepEqual(b, api.Block{}) {
			t.Errorf("Block of %d: %v", i, b)
		}
		if want && i > 0 && !reflect.DeepEqual(b, list[i-1]) {
			t.Errorf("Block of %d: %v, want %v", i, b, list[i-1])
		}
	}
	if c.Bodies() != 3 {
		t.Errorf("Bodies: %d", c.Bodies())
	}
}

// P14.1: Best is the first with the most work that hasn't failed, whether its body is there or not.
func TestBest(t *testing.T) {
	c := founded(t)
	best := func(want int) {
		t.Helper()
		if c.Best() != want {
			t.Fatalf("Best: %d, want %d", c.Best(), want)
		}
	}
	best(0)
	row(t, c, 0, 3, 10) // 1 2 3
	best(3)
	behind(t, c, 1, 20, makes(20)) // 4
	behind(t, c, 4, 21, makes(21)) // 5, as much as 3
	best(3)
	behind(t, c, 5, 22, makes(22)) // 6
	best(6)
	c.Fail(6)
	best(3)
	c.Fail(3)
	best(5)
	c.Fail(2)
	best(5)
	c.Fail(4)
	best(1)
	c.Fail(1)
	best(0)
	follows(t, c, 0)
	behind(t, c, 0, 30, makes(30)) // 7
	best(7)
}

// P14.1: the work counts, not how many they are.
func TestBestOfHarderOnes(t *testing.T) {
	c, easy, hard := uneven(t)
	if c.Get(easy).Height <= c.Get(hard).Height || num.Cmp(c.Get(easy).Work, c.Get(hard).Work) >= 0 {
		t.Fatalf("%+v isn't longer than %+v with less work", c.Get(easy), c.Get(hard))
	}
	if c.Best() != hard {
		t.Errorf("Best: %d, want %d", c.Best(), hard)
	}
}

// uneven is a chain by rules whose bits change: a way of many easy headers, and a shorter one with more work.
func uneven(t *testing.T) (c *Chain, easy, hard int) {
	t.Helper()
	c, e := New(sample.Founded(2))
	if e != api.OK {
		t.Fatal(e)
	}
	grow := func(i, mark int, later uint32) int {
		n := c.Get(i)
		b := sample.Under(api.Header{Version: uint32(mark), Prev: n.ID, Time: n.Time + later, Bits: c.Next(i)}, makes(mark))
		i, e := c.Add(sample.Mined(b.Header), late)
		if e != api.OK {
			t.Fatalf("Add: %v", e)
		}
		return i
	}
	for mark := range 9 {
		easy = grow(easy, mark+1, 100)
	}
	for mark := range 7 {
		hard = grow(hard, mark+11, 1)
	}
	return c, easy, hard
}

// P14.3: with bodies, too, the work counts, not how many they are.
func TestFollowHarderOnes(t *testing.T) {
	c, easy, hard := uneven(t)
	for i := 1; i < c.Len(); i++ {
		mark := int(c.Get(i).Version)
		bring(t, c, api.Block{Header: c.Get(i).Header, Txs: []api.Tx{makes(mark)}})
		if i == easy {
			follows(t, c, easy)
		}
	}
	follows(t, c, hard)
}

// P14.2: what Body answers of what there isn't.
func TestMissing(t *testing.T) {
	c := founded(t)
	b := sample.Grown(c.Get(0).Header, 1, makes(1))
	brought(t, c, b, api.ErrMissing)
	brought(t, c, api.Block{}, api.ErrMissing)
	brought(t, c, api.Block{Header: b.Header}, api.ErrMissing)
	if i, e := c.Add(b.Header, late); i != 1 || e != api.OK {
		t.Fatalf("Add: %v", e)
	}
	other := b
	other.Nonce++
	brought(t, c, other, api.ErrMissing)
	bring(t, c, b)
	follows(t, c, 1)
}

// P14.2: of what has failed, or is there, nothing else is asked.
func TestFailedAndTwice(t *testing.T) {
	c := founded(t)
	list := row(t, c, 0, 3, 1)
	genesis, _ := c.Block(0)
	bring(t, c, list[1])
	for _, b := range []api.Block{genesis, list[1]} {
		brought(t, c, b, api.ErrTwice)
		b.Txs = []api.Tx{makes(77)}
		brought(t, c, b, api.ErrTwice)
		b.Txs = nil
		brought(t, c, b, api.ErrTwice)
	}
	failed(t, c)
	c.Fail(2)
	for _, b := range list[1:] {
		brought(t, c, b, api.ErrFailed)
		b.Txs = []api.Tx{makes(77)}
		brought(t, c, b, api.ErrFailed)
	}
	if !c.Has(2) || c.Has(3) {
		t.Error("bodies of failed ones come or go")
	}
	bring(t, c, list[0])
	follows(t, c, 1)
	failed(t, c, 2, 3)
}

// P14.2: transactions that aren't the header's own leave it as it is, and the right ones may come.
func TestRoot(t *testing.T) {
	c := founded(t)
	one, two := makes(1), sample.Moved(makes(0), 0, 20)
	three := sample.Moved(two, 0, 10)
	b := behind(t, c, 0, 1, one, two, three)
	for what, txs := range map[string][]api.Tx{
		"none":                      nil,
		"one less":                  {one, two},
		"one more":                  {one, two, three, makes(4)},
		"another order":             {one, three, two},
		"the last doubled":          {one, two, three, three},
		"another one":               {makes(2), two, three},
		"one that itself can't be":  {tooMuch(2), two, three},
		"none that may be anywhere": {{}, {}, {}},
	} {
		i, e := c.Body(api.Block{Header: b.Header, Txs: txs})
		if i != -1 || e != api.ErrRoot || c.Has(1) || c.Bodies() != 1 {
			t.Errorf("Body of %s: %d, %v", what, i, e)
		}
		failed(t, c)
	}
	bring(t, c, b)
	follows(t, c, 1)
}

// P14.2: what looks like two names isn't taken for the header's own.
func TestRootOfTwoNames(t *testing.T) {
	c := founded(t)
	left, right := api.ID{1}, api.ID{5: 25} // an input with a key of 25 bytes, and no output
	x, e := tx.Read(slices.Concat(left[:], right[:]))
	if e != api.OK {
		t.Fatalf("a transaction of two names: %v", e)
	}
	b := behind(t, c, 0, 1, x)
	brought(t, c, b, api.ErrRoot)
	failed(t, c)
}

// P14.2: a block that can't be by itself fails, and all behind it.
func TestBlock(t *testing.T) {
	twice := sample.Moved(makes(0), 0, 1)
	twice.Ins = append(twice.Ins, twice.Ins[0])
	long := sample.Moved(makes(0), 0, 1)
	long.Ins[0].Key = make([]byte, tx.MaxKey+1)
	var many []api.Tx
	for i := range tx.MaxTxs + 1 {
		many = append(many, makes(i))
	}
	for what, x := range map[string]struct {
		txs  []api.Tx
		want api.Errno
	}{
		"none":             {nil, api.ErrShape},
		"too many":         {many, api.ErrShape},
		"two first ones":   {many[:2], api.ErrShape},
		"no first one":     {[]api.Tx{sample.Moved(makes(0), 0, 1)}, api.ErrShape},
		"a point twice":    {[]api.Tx{makes(1), twice}, api.ErrTwice},
		"a long key":       {[]api.Tx{makes(1), long}, api.ErrLong},
		"an amount":        {[]api.Tx{sample.Made(1, -1)}, api.ErrAmount},
		"too great a sum":  {[]api.Tx{sample.Made(1, index.MaxMoney, 1)}, api.ErrAmount},
		"one without outs": {[]api.Tx{sample.Made(1)}, api.ErrShape},
	} {
		c := founded(t)
		b := behind(t, c, 0, 1, x.txs...)
		if check.Block(b) != x.want {
			t.Fatalf("%s: %v", what, check.Block(b))
		}
		next := behind(t, c, 1, 2, makes(2))
		last := behind(t, c, 2, 3, makes(3))
		beside := behind(t, c, 0, 4, makes(4))
		bring(t, c, last)
		brought(t, c, b, x.want)
		failed(t, c, 1, 2, 3)
		if c.Has(1) || c.Bodies() != 2 {
			t.Errorf("the body of %s is there", what)
		}
		brought(t, c, b, api.ErrFailed)
		brought(t, c, next, api.ErrFailed)
		follows(t, c, 0)
		bring(t, c, beside)
		follows(t, c, 4)
	}
}

// P14.3: a block is followed as soon as all bodies on the way to it are there; the document's example, too.
func TestReady(t *testing.T) {
	c := founded(t)
	list := row(t, c, 0, 5, 1)
	follows(t, c, 0)
	bring(t, c, list[0])
	follows(t, c, 1)
	bring(t, c, list[3])
	bring(t, c, list[4])
	bring(t, c, list[2])
	follows(t, c, 1)
	bring(t, c, list[1])
	follows(t, c, 5)
	if c.Bodies() != 6 {
		t.Errorf("Bodies: %d", c.Bodies())
	}
}

// P14.3: in whatever order bodies come, the same way is followed in the end.
func TestOrders(t *testing.T) {
	for order := range 24 {
		c := founded(t)
		list := row(t, c, 0, 4, 1)
		left := []int{0, 1, 2, 3}
		for n := order; len(left) > 0; n /= 4 {
			at := n % len(left)
			bring(t, c, list[left[at]])
			left = slices.Delete(left, at, at+1)
			lowest := slices.Concat(left, []int{4})
			slices.Sort(lowest)
			follows(t, c, lowest[0])
		}
	}
}

// P14.3: another way is followed as soon as there is more work behind it, not as much.
func TestTurn(t *testing.T) {
	c := founded(t)
	one := row(t, c, 0, 3, 10) // 1 2 3
	two := row(t, c, 1, 4, 20) // 4 5 6 7
	bring(t, c, one...)
	follows(t, c, 3)
	bring(t, c, two[:2]...)
	follows(t, c, 3)
	bring(t, c, two[2])
	follows(t, c, 6)
	more := row(t, c, 3, 2, 30) // 8 9
	bring(t, c, more[0])
	follows(t, c, 6)
	bring(t, c, more[1])
	follows(t, c, 9)
	bring(t, c, two[3])
	follows(t, c, 9)
	failed(t, c)
}

// P14.3: blocks that are left and followed again spend, and make, what they did before.
func TestTurnBack(t *testing.T) {
	c := founded(t)
	first := makes(0)
	left := sample.Moved(first, 0, 20, 30)
	a1 := behind(t, c, 0, 1, makes(1), left)                                            // 1
	a2 := behind(t, c, 1, 2, sample.Made(2, 60), sample.Moved(left, 1, 5, 15))          // 2
	right := sample.Moved(first, 0, 50)                                                 // spends what left does
	b1 := behind(t, c, 0, 3, makes(3), right)                                           // 3
	b2 := behind(t, c, 3, 4, makes(4), sample.Moved(right, 0, 40, 10))                  // 4
	b3 := behind(t, c, 4, 5, makes(5), sample.Moved(makes(3), 0, 50))                   // 5
	a3 := behind(t, c, 2, 6, makes(6), sample.Moved(makes(1), 0, 50))                   // 6
	a4 := behind(t, c, 6, 7, makes(7), sample.Moved(sample.Made(2, 60), 0, 1, 2, 3, 4)) // 7
	bring(t, c, a1, a2)
	follows(t, c, 2)
	bring(t, c, b1, b2, b3)
	follows(t, c, 5)
	bring(t, c, a4)
	follows(t, c, 5)
	bring(t, c, a3)
	follows(t, c, 7)
	failed(t, c)
	coin, ok := c.Coins().Get(sample.At(left, 0))
	if !ok || coin.Amount != 20 || coin.Height != 1 {
		t.Errorf("a coin of the first block: %v, %v", coin, ok)
	}
	if _, ok := c.Coins().Get(sample.At(right, 0)); ok {
		t.Error("a coin of the way that was left")
	}
}

// P14.3: of two with as much work that are ready at once the first one counts, in whatever order their bodies came.
func TestFirstOfTwo(t *testing.T) {
	for _, order := range [][]int{{2, 3, 4}, {4, 3, 2}, {3, 4, 2}} {
		c := founded(t)
		list := []api.Block{{}, behind(t, c, 0, 1, makes(1))}
		for mark := 2; mark <= 4; mark++ {
			list = append(list, behind(t, c, 1, mark, makes(mark)))
		}
		for _, i := range order {
			bring(t, c, list[i])
		}
		follows(t, c, 0)
		bring(t, c, list[1])
		follows(t, c, 2)
	}
}

// P14.3: of those that can't be connected the first fails, and the next one is looked for.
func TestNextOne(t *testing.T) {
	c := founded(t)
	root := behind(t, c, 0, 1, makes(1))      // 1
	bad := behind(t, c, 1, 2, tooMuch(2))     // 2
	worse := behind(t, c, 1, 3, tooMuch(3))   // 3
	good := behind(t, c, 1, 4, makes(4))      // 4
	also := behind(t, c, 1, 5, makes(5))      // 5
	unasked := behind(t, c, 1, 6, tooMuch(6)) // 6
	bring(t, c, also, unasked, good, worse, bad)
	bring(t, c, root)
	follows(t, c, 4)
	failed(t, c, 2, 3) // the last one has no more work than what is followed: it isn't asked
	if c.Bodies() != 7 || !c.Has(2) {
		t.Error("the body of one that can't be connected is there no more")
	}
	brought(t, c, bad, api.ErrFailed)
	bring(t, c, behind(t, c, 6, 7, makes(7)))
	follows(t, c, 4)
	failed(t, c, 2, 3, 6, 7)
}

// P14.3: what fails amid a way leaves those ahead of it, if they have more work than what was followed.
func TestFailsAmid(t *testing.T) {
	c := founded(t)
	old := row(t, c, 0, 2, 10)              // 1 2
	way := row(t, c, 0, 3, 20)              // 3 4 5
	bad := behind(t, c, 5, 23, tooMuch(23)) // 6
	rest := row(t, c, 6, 2, 24)             // 7 8
	bring(t, c, old...)
	bring(t, c, way[1:]...)
	bring(t, c, bad)
	bring(t, c, rest...)
	follows(t, c, 2)
	bring(t, c, way[0])
	follows(t, c, 5)
	failed(t, c, 6, 7, 8)
}

// P14.3: what fails early leaves what was followed, as it was.
func TestFailsEarly(t *testing.T) {
	c := founded(t)
	spend := sample.Moved(makes(0), 0, 50)
	old := []api.Block{behind(t, c, 0, 1, makes(1), spend)}                    // 1
	old = append(old, behind(t, c, 1, 2, makes(2), sample.Moved(spend, 0, 7))) // 2
	way := row(t, c, 0, 2, 20)                                                 // 3 4
	bad := behind(t, c, 4, 22, makes(22), sample.Moved(spend, 0, 50))          // 5: spends what the other way makes
	rest := row(t, c, 5, 1, 23)                                                // 6
	bring(t, c, old...)
	follows(t, c, 2)
	bring(t, c, way...)
	follows(t, c, 2)
	bring(t, c, rest...)
	bring(t, c, bad)
	follows(t, c, 2)
	failed(t, c, 5, 6)
	bring(t, c, behind(t, c, 2, 30, makes(30)))
	follows(t, c, 7)
	next := row(t, c, 4, 3, 40) // 8 9 10
	bring(t, c, next...)
	follows(t, c, 10)
}

// P14.3: each error of connecting fails the block.
func TestConnect(t *testing.T) {
	first := makes(0)
	locked := sample.Moved(first, 0, 1)
	locked.Ins[0].Key = []byte("x")
	for what, x := range map[string]struct {
		txs []api.Tx
		ok  bool
	}{
		"right":                    {[]api.Tx{makes(1)}, true},
		"spent":                    {[]api.Tx{makes(1), sample.Moved(makes(7), 0, 1)}, false},
		"a key":                    {[]api.Tx{makes(1), locked}, false},
		"an amount":                {[]api.Tx{makes(1), sample.Moved(first, 0, 51)}, false},
		"a fee":                    {[]api.Tx{sample.Made(1, 70), sample.Moved(first, 0, 30)}, true},
		"more than a fee":          {[]api.Tx{sample.Made(1, 71), sample.Moved(first, 0, 30)}, false},
		"a point that has a coin":  {[]api.Tx{first}, false},
		"a point that had a coin":  {[]api.Tx{first, sample.Moved(first, 0, 50)}, true},
		"a coin that is made here": {[]api.Tx{makes(1), sample.Moved(makes(1), 0, 1)}, false},
	} {
		c := founded(t)
		bring(t, c, behind(t, c, 0, 1, x.txs...))
		if x.ok {
			follows(t, c, 1)
			failed(t, c)
			continue
		}
		if c.Tip() != 0 {
			t.Errorf("%s: followed", what)
		}
		follows(t, c, 0)
		failed(t, c, 1)
	}
}

// P14.3 and P14.4: what fails from outside isn't followed any more, but what is followed already stays, till something else has more work.
func TestFailFromOutside(t *testing.T) {
	c := founded(t)
	list := row(t, c, 0, 3, 10)  // 1 2 3
	other := row(t, c, 0, 4, 20) // 4 5 6 7
	bring(t, c, list...)
	if c.Fail(1) != 3 {
		t.Fatal("Fail")
	}
	follows(t, c, 3)
	if c.Best() != 7 {
		t.Errorf("Best: %d", c.Best())
	}
	bring(t, c, other[:3]...)
	follows(t, c, 3)
	c.Fail(7)
	brought(t, c, other[3], api.ErrFailed)
	follows(t, c, 3)
	bring(t, c, behind(t, c, 6, 30, makes(30)))
	follows(t, c, 8)
}

// P14.3: one that failed while its body waited isn't followed, nor asked.
func TestFailedWhileItWaited(t *testing.T) {
	c := founded(t)
	list := row(t, c, 0, 4, 10) // 1 2 3 4
	bring(t, c, list[1:]...)
	c.Fail(3)
	bring(t, c, list[0])
	follows(t, c, 2)
	failed(t, c, 3, 4)
}

// P14.1 to P14.4, as many headers as there may be, the bodies from the last one on.
func TestMany(t *testing.T) {
	c := founded(t)
	list := row(t, c, 0, index.MaxNodes-1, 1)
	slices.Reverse(list)
	bring(t, c, list[:len(list)-1]...)
	follows(t, c, 0)
	bring(t, c, list[len(list)-1])
	follows(t, c, index.MaxNodes-1)
}

// P2: what is handed in isn't changed, nor kept; what is answered is apart.
func TestApart(t *testing.T) {
	r := sample.Founded(0)
	c, _ := New(r)
	sample.ChangeTx(r.Genesis.Txs[0])
	sample.Change(r.Genesis.Txs, api.Tx{})
	follows(t, c, 0)
	if b, _ := c.Block(0); !reflect.DeepEqual(b, sample.Founded(0).Genesis) {
		t.Error("the rules are kept")
	}

	fresh := func() []api.Tx {
		txs := []api.Tx{makes(1), sample.Moved(makes(0), 0, 20, 30)}
		for i := range txs {
			txs[i].Ins, txs[i].Outs = slices.Grow(txs[i].Ins, 3), slices.Grow(txs[i].Outs, 3)
		}
		return slices.Grow(txs, 3)
	}
	given := behind(t, c, 0, 1, fresh()...)
	want := api.Block{Header: given.Header, Txs: fresh()}
	bring(t, c, given)
	if !reflect.DeepEqual(given, want) || !reflect.DeepEqual(given.Txs[:3][2], api.Tx{}) || given.Txs[1].Outs[:3][2] != (api.Out{}) {
		t.Error("a block that came is changed")
	}
	for range 2 {
		for _, x := range given.Txs {
			sample.ChangeTx(x)
		}
		sample.Change(given.Txs, api.Tx{})
		got, _ := c.Block(1)
		if !reflect.DeepEqual(got, want) {
			t.Fatalf("a block is kept, or shared: %v, want %v", got, want)
		}
		given = got
	}

	set := c.Coins()
	if _, e := set.Connect(sample.Grown(want.Header, 2, makes(2)), 2, 50); e != api.OK || set.Same(c.Coins()) {
		t.Errorf("the chain's own coins are answered: %v", e)
	}
	was := c.Coins()
	bring(t, c, behind(t, c, 1, 3, makes(3)))
	if was.Same(c.Coins()) || was.Len() != 3 {
		t.Error("coins that were answered follow the chain")
	}
	follows(t, c, 2)
}

// P2: two chains of the same rules know nothing of each other.
func TestChainsAreApart(t *testing.T) {
	r := sample.Founded(0)
	one, _ := New(r)
	two, _ := New(r)
	b := behind(t, one, 0, 1, makes(1))
	bring(t, one, b)
	follows(t, one, 1)
	follows(t, two, 0)
	brought(t, two, b, api.ErrMissing)
}

// P1: whatever they are given, the calls end.
func TestAnyArguments(t *testing.T) {
	d := sample.Dice(3)
	for _, r := range []api.Rules{{}, {Limit: 1}, {Limit: sample.Easy, Spacing: 1, Genesis: d.Block(3, 200)}, {Limit: sample.Easy, Spacing: 1, Genesis: api.Block{Header: api.Header{Bits: sample.Easy}, Txs: make([]api.Tx, 50)}}} {
		if c, e := New(r); c != nil || e == api.OK {
			t.Errorf("New of %+v: %v", r, e)
		}
	}
	c := founded(t)
	for _, txs := range [][]api.Tx{nil, make([]api.Tx, 5000), {{Ins: make([]api.In, 5000)}}, {{Outs: make([]api.Out, 5000)}}, d.Block(40, 300).Txs} {
		b := behind(t, c, 0, d.Next(), txs...)
		for _, raw := range []api.Block{{Txs: txs}, {Header: d.Header(), Txs: txs}, {Header: c.Get(0).Header, Txs: txs}, {Header: b.Header, Txs: d.Block(2, 3).Txs}, b, b} {
			if i, e := c.Body(raw); i != -1 || e == api.OK {
				t.Errorf("Body: %d, %v", i, e)
			}
		}
		follows(t, c, 0)
	}
}
