package index

import (
	"bytes"
	"crypto/sha256"
	"math"
	"slices"
	"testing"

	"tallystick/api"
	"tallystick/bits"
	"tallystick/head"
	"tallystick/num"
	"tallystick/sample"
)

const (
	easy   = sample.Easy
	harder = 0x207ffffe // a little less than that
	late   = math.MaxInt64
)

func planted(t *testing.T, r api.Rules) *Tree {
	t.Helper()
	tree, e := New(r)
	if e != api.OK || tree == nil {
		t.Fatalf("New of %+v: %v", r, e)
	}
	return tree
}

func named(h api.Header) api.ID {
	once := sha256.Sum256(sample.HeaderBytes(h))
	return sha256.Sum256(once[:])
}

// mined is a header behind which work stands.
func mined(t *testing.T, h api.Header) api.Header {
	t.Helper()
	m := sample.Mined(h)
	if m == (api.Header{}) {
		t.Fatalf("no nonce for the bits %08x", h.Bits)
	}
	return m
}

// unproved is a header behind which none stands.
func unproved(t *testing.T, h api.Header) api.Header {
	t.Helper()
	for head.Proved(h, easy) != api.ErrProof {
		h.Nonce++
		if h.Nonce > 1000 {
			t.Fatalf("work stands behind all of the bits %08x", h.Bits)
		}
	}
	return h
}

// behind is a header that may stand behind the i-th, if its time may be; mark tells it from others.
func behind(t *testing.T, tree *Tree, i int, time, mark uint32) api.Header {
	t.Helper()
	return mined(t, api.Header{Version: mark, Prev: tree.Get(i).ID, Time: time, Bits: tree.Next(i)})
}

// grown is a header that stands behind the i-th now, a second later than it: its number.
func grown(t *testing.T, tree *Tree, i int, mark uint32) int {
	t.Helper()
	return grownAt(t, tree, i, tree.Get(i).Time+1, mark)
}

func grownAt(t *testing.T, tree *Tree, i int, time, mark uint32) int {
	t.Helper()
	n, e := tree.Add(behind(t, tree, i, time, mark), late)
	if e != api.OK || n != tree.Len()-1 {
		t.Fatalf("Add behind %d: %d, %v", i, n, e)
	}
	return n
}

// forked is a tree of eight: 0 1 2 3 in a row, 4 5 behind 1, 6 behind 5, 7 behind 0.
func forked(t *testing.T) *Tree {
	t.Helper()
	tree := planted(t, sample.Rules(0))
	for mark, parent := range []int{0, 1, 2, 1, 4, 5, 0} {
		grown(t, tree, parent, uint32(mark))
	}
	return tree
}

func added(t *testing.T, what string, tree *Tree, h api.Header, now int64, number int, want api.Errno) {
	t.Helper()
	before := all(tree)
	got, e := tree.Add(h, now)
	if got != number || e != want {
		t.Errorf("Add of %s: %d, %v, want %d, %v", what, got, e, number, want)
	}
	if want == api.OK {
		return
	}
	if !slices.Equal(all(tree), before) {
		t.Errorf("Add of %s has changed something", what)
	}
	if _, ok := tree.Find(named(h)); ok != (want == api.ErrTwice) {
		t.Errorf("Find of %s: %v", what, ok)
	}
}

func fits(t *testing.T, what string, tree *Tree, h api.Header, parent int, now int64, want api.Errno) {
	t.Helper()
	before := all(tree)
	if e := tree.Fits(h, parent, now); e != want {
		t.Errorf("Fits of %s: %v, want %v", what, e, want)
	}
	if !slices.Equal(all(tree), before) {
		t.Errorf("Fits of %s has changed something", what)
	}
}

func all(tree *Tree) []Node {
	var list []Node
	for i := range tree.Len() {
		list = append(list, tree.Get(i))
	}
	return list
}

func TestLimits(t *testing.T) {
	if MaxNodes != 16384 || MaxMoney != 1125899906842624 || Span != 11 || Ahead != 7200 {
		t.Error("the limits are others")
	}
}

// P10.1
func TestCheck(t *testing.T) {
	for what, x := range map[string]struct {
		change func(r *api.Rules)
		want   api.Errno
	}{
		"rules":                       {func(r *api.Rules) {}, api.OK},
		"another limit":               {func(r *api.Rules) { r.Limit, r.Genesis.Bits = 0x1d00ffff, 0x1d00ffff }, api.OK},
		"the least limit":             {func(r *api.Rules) { r.Limit, r.Genesis.Bits = 0x01010000, 0x01010000 }, api.OK},
		"the greatest limit":          {func(r *api.Rules) { r.Limit, r.Genesis.Bits = 0x2100ffff, 0x2100ffff }, api.OK},
		"no limit":                    {func(r *api.Rules) { r.Limit, r.Genesis.Bits = 0, 0 }, api.ErrBits},
		"a limit of nought":           {func(r *api.Rules) { r.Limit, r.Genesis.Bits = 0x01000001, 0x01000001 }, api.ErrBits},
		"a limit below nought":        {func(r *api.Rules) { r.Limit, r.Genesis.Bits = 0x20800000, 0x20800000 }, api.ErrBits},
		"a limit that is too long":    {func(r *api.Rules) { r.Limit, r.Genesis.Bits = 0x21010000, 0x21010000 }, api.ErrBits},
		"no limit, but the genesis'":  {func(r *api.Rules) { r.Limit = 0 }, api.ErrBits},
		"no bits of the genesis":      {func(r *api.Rules) { r.Genesis.Bits = 0 }, api.ErrBits},
		"harder bits of the genesis":  {func(r *api.Rules) { r.Genesis.Bits = harder }, api.ErrBits},
		"easier bits of the genesis":  {func(r *api.Rules) { r.Limit = harder }, api.ErrBits},
		"one target in two forms":     {func(r *api.Rules) { r.Limit, r.Genesis.Bits = 0x05000012, 0x04001200 }, api.ErrBits},
		"Every -1":                    {func(r *api.Rules) { r.Every = -1 }, api.ErrRange},
		"Every 1":                     {func(r *api.Rules) { r.Every = 1 }, api.OK},
		"Every 1000":                  {func(r *api.Rules) { r.Every = 1000 }, api.OK},
		"Every 1001":                  {func(r *api.Rules) { r.Every = 1001 }, api.ErrRange},
		"the least Every":             {func(r *api.Rules) { r.Every = math.MinInt }, api.ErrRange},
		"the greatest Every":          {func(r *api.Rules) { r.Every = math.MaxInt }, api.ErrRange},
		"Spacing -1":                  {func(r *api.Rules) { r.Spacing = -1 }, api.ErrRange},
		"Spacing 0":                   {func(r *api.Rules) { r.Spacing = 0 }, api.ErrRange},
		"Spacing 1":                   {func(r *api.Rules) { r.Spacing = 1 }, api.OK},
		"Spacing 2^20":                {func(r *api.Rules) { r.Spacing = 1 << 20 }, api.OK},
		"Spacing 2^20 + 1":            {func(r *api.Rules) { r.Spacing = 1<<20 + 1 }, api.ErrRange},
		"the greatest Spacing":        {func(r *api.Rules) { r.Spacing = math.MaxInt }, api.ErrRange},
		"Subsidy -1":                  {func(r *api.Rules) { r.Subsidy = -1 }, api.ErrRange},
		"Subsidy 0":                   {func(r *api.Rules) { r.Subsidy = 0 }, api.OK},
		"Subsidy 2^50":                {func(r *api.Rules) { r.Subsidy = 1 << 50 }, api.OK},
		"Subsidy 2^50 + 1":            {func(r *api.Rules) { r.Subsidy = 1<<50 + 1 }, api.ErrRange},
		"the least Subsidy":           {func(r *api.Rules) { r.Subsidy = math.MinInt64 }, api.ErrRange},
		"the greatest Subsidy":        {func(r *api.Rules) { r.Subsidy = math.MaxInt64 }, api.ErrRange},
		"Work -1":                     {func(r *api.Rules) { r.Work = -1 }, api.ErrRange},
		"Work 0":                      {func(r *api.Rules) { r.Work = 0 }, api.OK},
		"Work 1000":                   {func(r *api.Rules) { r.Work = 1000 }, api.OK},
		"Work 1001":                   {func(r *api.Rules) { r.Work = 1001 }, api.ErrRange},
		"the greatest Work":           {func(r *api.Rules) { r.Work = math.MaxInt }, api.ErrRange},
		"all at their least":          {func(r *api.Rules) { r.Every, r.Spacing, r.Subsidy, r.Work = 0, 1, 0, 0 }, api.OK},
		"all at their greatest":       {func(r *api.Rules) { r.Every, r.Spacing, r.Subsidy, r.Work = 1000, 1<<20, 1<<50, 1000 }, api.OK},
		"no limit, and no range":      {func(r *api.Rules) { r.Limit, r.Every = 0, -1 }, api.ErrBits},
		"other bits, and no range":    {func(r *api.Rules) { r.Genesis.Bits, r.Work = harder, 1001 }, api.ErrBits},
		"nothing":                     {func(r *api.Rules) { *r = api.Rules{} }, api.ErrBits},
		"a genesis of anything":       {func(r *api.Rules) { r.Genesis.Version, r.Genesis.Prev, r.Genesis.Time = 7, api.ID{8}, 0 }, api.OK},
		"a genesis of no right block": {func(r *api.Rules) { r.Genesis.Txs = make([]api.Tx, 50) }, api.OK},
	} {
		r := sample.Rules(0)
		x.change(&r)
		if e := Check(r); e != x.want {
			t.Errorf("Check of %s: %v, want %v", what, e, x.want)
		}
		if tree, e := New(r); e != x.want || (tree != nil) != (x.want == api.OK) {
			t.Errorf("New of %s: %v, %v, want %v", what, tree, e, x.want)
		}
	}
}

// P10.1: the genesis stands in the tree, whatever work stands behind it.
func TestNew(t *testing.T) {
	for _, x := range []struct {
		limit uint32
		work  num.Num
	}{{easy, num.Of(2)}, {0x1d00ffff, num.Of(0x100010001)}, {0x01010000, num.Num{0, 0, 0, 1 << 63}}, {0x2100ffff, num.Of(1)}} {
		r := sample.Rules(0)
		h := api.Header{Version: 9, Prev: api.ID{1}, Root: api.ID{2}, Time: 3, Bits: x.limit, Nonce: 4}
		r.Limit, r.Genesis.Header = x.limit, h
		if x.limit == easy {
			h = unproved(t, h)
			r.Genesis.Header = h
		}
		tree := planted(t, r)
		want := Node{Header: h, ID: named(h), Parent: -1, Work: x.work}
		if tree.Len() != 1 || tree.Get(0) != want {
			t.Errorf("a new tree: %d, %+v, want %+v", tree.Len(), tree.Get(0), want)
		}
		if i, ok := tree.Find(named(h)); i != 0 || !ok {
			t.Errorf("Find of the genesis: %d, %v", i, ok)
		}
	}
}

// blocks has rules whose genesis has transactions.
func blocks(seed sample.Dice) api.Rules {
	r := sample.Rules(0)
	r.Genesis.Txs = seed.Block(3, 20).Txs
	return r
}

func sameRules(a, b api.Rules) bool {
	return a.Limit == b.Limit && a.Every == b.Every && a.Spacing == b.Spacing && a.Subsidy == b.Subsidy && a.Work == b.Work && bytes.Equal(sample.BlockBytes(a.Genesis), sample.BlockBytes(b.Genesis))
}

func changeRules(r api.Rules) {
	for _, x := range r.Genesis.Txs {
		sample.ChangeTx(x)
	}
	sample.Change(r.Genesis.Txs, api.Tx{})
}

// P10.1
func TestRules(t *testing.T) {
	for _, r := range []api.Rules{sample.Rules(0), sample.Rules(7), blocks(1), {Limit: 0x1d00ffff, Every: 1000, Spacing: 1 << 20, Subsidy: 1 << 50, Work: 1000, Genesis: api.Block{Header: api.Header{Version: 1, Prev: api.ID{2}, Root: api.ID{3}, Time: 4, Bits: 0x1d00ffff, Nonce: 6}, Txs: []api.Tx{{}, {Ins: []api.In{{}}}}}}} {
		if got := planted(t, r).Rules(); !sameRules(got, r) {
			t.Errorf("Rules: %+v, want %+v", got, r)
		}
	}
}

// P2: rules that were handed in are neither changed nor kept; those that are answered are new.
func TestRulesAreApart(t *testing.T) {
	given, want := blocks(2), blocks(2)
	Check(given)
	tree := planted(t, given)
	first, second := tree.Rules(), tree.Rules()
	if !sameRules(given, want) {
		t.Error("rules that were handed in have changed")
	}
	changeRules(given)
	if !sameRules(first, want) || !sameRules(tree.Rules(), want) {
		t.Error("the tree keeps what was handed in")
	}
	changeRules(first)
	if !sameRules(second, want) || !sameRules(tree.Rules(), want) {
		t.Error("the tree hands out what it keeps")
	}
}

// P10.1
func TestGetAndFind(t *testing.T) {
	tree := forked(t)
	if tree.Len() != 8 {
		t.Fatalf("Len: %d", tree.Len())
	}
	for i := range 8 {
		n := tree.Get(i)
		if n.ID != named(n.Header) {
			t.Errorf("the name of %d", i)
		}
		if at, ok := tree.Find(n.ID); at != i || !ok {
			t.Errorf("Find of %d: %d, %v", i, at, ok)
		}
	}
	for _, i := range []int{-1, -2, 8, 9, 1000, math.MinInt, math.MaxInt} {
		if tree.Get(i) != tree.Get(0) {
			t.Errorf("Get of %d: %+v", i, tree.Get(i))
		}
	}
	d := sample.Dice(3)
	for _, id := range append(d.IDs(20), api.ID{}, named(behind(t, tree, 3, tree.Get(3).Time+1, 77))) {
		if at, ok := tree.Find(id); at != 0 || ok {
			t.Errorf("Find of none: %d, %v", at, ok)
		}
	}
}

// P10.1: heights, parents and work; the document's example, too.
func TestNodes(t *testing.T) {
	tree := forked(t)
	parents, heights := []int{-1, 0, 1, 2, 1, 4, 5, 0}, []int{0, 1, 2, 3, 2, 3, 4, 1}
	for i := range 8 {
		n := tree.Get(i)
		if n.Parent != parents[i] || n.Height != heights[i] || n.Work != num.Of(2*uint64(heights[i])+2) || n.Failed {
			t.Errorf("the node %d: %+v", i, n)
		}
		if i > 0 && n.Prev != tree.Get(parents[i]).ID {
			t.Errorf("what %d stands behind: %x", i, n.Prev)
		}
		if i > 0 && (n.Skip < 0 || n.Skip == i || !tree.On(n.Skip, i)) {
			t.Errorf("Skip of %d: %d", i, n.Skip)
		}
	}
	if tree.Get(1).Work != num.Of(4) {
		t.Errorf("the work with the first header behind the genesis: %v", tree.Get(1).Work)
	}
}

// P10.2
func TestAncestor(t *testing.T) {
	tree := forked(t)
	ways := [][]int{{0}, {0, 1}, {0, 1, 2}, {0, 1, 2, 3}, {0, 1, 4}, {0, 1, 4, 5}, {0, 1, 4, 5, 6}, {0, 7}}
	for i, way := range ways {
		for height := -3; height < 10; height++ {
			want := -1
			if height >= 0 && height < len(way) {
				want = way[height]
			}
			if got := tree.Ancestor(i, height); got != want {
				t.Errorf("Ancestor of %d at %d: %d, want %d", i, height, got, want)
			}
		}
		for at := range ways {
			if got := tree.On(at, i); got != slices.Contains(way, at) {
				t.Errorf("whether %d lies on the way to %d: %v", at, i, got)
			}
		}
	}
}

// P10.2: of numbers that there aren't.
func TestAncestorOfNone(t *testing.T) {
	tree := forked(t)
	for _, i := range []int{-1, -2, 8, 9, math.MinInt, math.MaxInt} {
		for _, height := range []int{-1, 0, 1, 8, math.MinInt, math.MaxInt} {
			if got := tree.Ancestor(i, height); got != -1 {
				t.Errorf("Ancestor of %d at %d: %d", i, height, got)
			}
		}
		for at := -2; at < 10; at++ {
			if tree.On(i, at) || tree.On(at, i) {
				t.Errorf("%d and %d lie on a way", i, at)
			}
		}
		if tree.On(i, i) {
			t.Errorf("%d is there", i)
		}
	}
	for _, height := range []int{math.MinInt, math.MaxInt} {
		if got := tree.Ancestor(3, height); got != -1 {
			t.Errorf("Ancestor at %d: %d", height, got)
		}
	}
}

// row is a tree of headers one behind the other, so many seconds behind the genesis.
func row(t *testing.T, every int, times ...uint32) *Tree {
	t.Helper()
	tree := planted(t, sample.Rules(every))
	for i, time := range times {
		grownAt(t, tree, i, 100000+time, 1)
	}
	return tree
}

// P10.3: of at most eleven the one at half their count.
func TestMedian(t *testing.T) {
	times := []uint32{10, 20, 11, 500, 12, 13, 300, 14, 200, 15, 400, 16, 900}
	tree := row(t, 0, times...)
	for i, want := range []uint32{
		0,  // 0
		10, // 0 10
		10, // 0 10 20
		11, // 0 10 11 20
		11, // 0 10 11 20 500
		12, // 0 10 11 12 20 500
		12, // 0 10 11 12 13 20 500
		13, // 0 10 11 12 13 20 300 500
		13, // 0 10 11 12 13 14 20 300 500
		14, // 0 10 11 12 13 14 20 200 300 500
		14, // 0 10 11 12 13 14 15 20 200 300 500
		15, // 10 11 12 13 14 15 20 200 300 400 500: the genesis counts no more
		16, // 11 12 13 14 15 16 20 200 300 400 500
		16, // 11 12 13 14 15 16 200 300 400 500 900
	} {
		if got := tree.Median(i); got != 100000+want {
			t.Errorf("Median of %d: %d, want %d", i, got, 100000+want)
		}
	}
}

// P10.3: of the way to it alone.
func TestMedianOfForks(t *testing.T) {
	tree := planted(t, sample.Rules(0))
	one := grownAt(t, tree, 0, 100010, 1)
	other := grownAt(t, tree, 0, 100900, 2)
	both := []int{grownAt(t, tree, one, 100020, 1), grownAt(t, tree, other, 101000, 1)}
	if tree.Median(both[0]) != 100010 || tree.Median(both[1]) != 100900 {
		t.Errorf("Median: %d, %d", tree.Median(both[0]), tree.Median(both[1]))
	}
}

// P10.3: times are compared as numbers from 0 to 2^32 - 1.
func TestMedianOfGreatTimes(t *testing.T) {
	r := sample.Rules(0)
	r.Genesis.Time = 5
	tree := planted(t, r)
	last := grownAt(t, tree, grownAt(t, tree, 0, 1<<31+5, 1), math.MaxUint32, 1)
	if tree.Median(1) != 1<<31+5 || tree.Median(last) != 1<<31+5 {
		t.Errorf("Median: %d, %d", tree.Median(1), tree.Median(last))
	}
}

// P10.3: where the bits change, that is by the seconds from the first to the last of so many.
func TestNext(t *testing.T) {
	for what, x := range map[string]struct {
		every int
		times []uint32
		want  uint32
	}{
		"those that never change":     {0, []uint32{1, 2, 3}, easy},
		"those that don't change yet": {4, []uint32{1}, easy},
		"one ahead of that":           {4, []uint32{1, 2}, easy},
		"one behind that":             {4, []uint32{7, 8, 20, 21}, 0x203fffff},
		"the last one behind that":    {4, []uint32{7, 8, 20, 21, 22, 23}, 0x203fffff},
		"in just as long":             {4, []uint32{7, 8, 40}, 0x207ffffe},
		"in half as long":             {4, []uint32{7, 8, 20}, 0x203fffff},
		"in a fourth":                 {4, []uint32{7, 8, 10}, 0x201fffff},
		"in less than a fourth":       {4, []uint32{1, 2, 3}, 0x201fffff},
		"in a little more":            {4, []uint32{7, 8, 41}, easy},
		"in four times as long":       {4, []uint32{7, 8, 160}, easy},
		"in longer":                   {4, []uint32{7, 8, 100000}, easy},
		"easier again":                {4, []uint32{7, 8, 20, 30, 40, 50, 90}, 0x205ffffe}, // 60 of 40
		"as easy as may be":           {4, []uint32{7, 8, 20, 30, 40, 50, 130}, easy},
		"harder again":                {4, []uint32{7, 8, 20, 30, 31, 32, 50}, 0x201fffff},
		"in less than nothing":        {2, []uint32{100, 1000, 101}, 0x201fffff},
		"in nothing":                  {2, []uint32{100, 200, 200}, 0x201fffff},
		"always":                      {1, nil, 0x20199999}, // a fourth of 10 is 2
		"always, again":               {1, []uint32{500}, 0x20051eb8},
		"the genesis is one of two":   {2, []uint32{10}, 0x203fffff},
		"one behind the first change": {2, []uint32{20, 21}, 0x207ffffe},
	} {
		tree := row(t, x.every, x.times...)
		if got := tree.Next(tree.Len() - 1); got != x.want {
			t.Errorf("Next of %s: %08x, want %08x", what, got, x.want)
		}
	}
}

// P10.3: by other Spacings and limits.
func TestNextByItsRules(t *testing.T) {
	for _, x := range []struct {
		limit          uint32
		every, spacing int
	}{{easy, 2, 1}, {easy, 1, 1}, {easy, 3, 1 << 20}, {0x1d00ffff, 1, 1 << 20}, {0x2100ffff, 1, 100}, {0x01010000, 1, 10}, {0x01030000, 1, 4}} {
		r := sample.Rules(x.every)
		r.Limit, r.Genesis.Bits, r.Spacing = x.limit, x.limit, x.spacing
		tree := planted(t, r)
		if x.every > 1 {
			for i := range x.every - 1 {
				grownAt(t, tree, i, 100000+uint32(i)*300000+2, 1)
			}
		}
		last := tree.Get(tree.Len() - 1)
		limit, _ := bits.Target(x.limit)
		want, _ := bits.Next(x.limit, int64(last.Time)-100000, int64(x.every)*int64(x.spacing), limit)
		if got := tree.Next(tree.Len() - 1); got != want {
			t.Errorf("Next by %+v: %08x, want %08x", x, got, want)
		}
	}
}

// P10.3: a target of which nothing is left has no bits, and nothing stands behind it.
func TestNextOfNothing(t *testing.T) {
	r := sample.Rules(1)
	r.Limit, r.Genesis.Bits = 0x01010000, 0x01010000
	tree := planted(t, r)
	if got := tree.Next(0); got != 0 {
		t.Errorf("Next: %08x", got)
	}
	fits(t, "no bits", tree, api.Header{Prev: tree.Get(0).ID, Time: 100001}, 0, late, api.ErrBits)
}

// P10.4
func TestFits(t *testing.T) {
	tree := row(t, 0, 10, 20, 30)
	h := behind(t, tree, 3, 100021, 5)
	fits(t, "a header", tree, h, 3, late, api.OK)
	for _, parent := range []int{-1, -2, 4, 5, math.MinInt, math.MaxInt} {
		fits(t, "one behind none", tree, h, parent, late, api.ErrOrphan)
		fits(t, "an unproved one behind none", tree, unproved(t, h), parent, late, api.ErrOrphan)
	}
	fits(t, "one without work", tree, unproved(t, h), 3, late, api.ErrProof)
	fits(t, "one whose name stands ahead of another", tree, h, 1, late, api.OK)
	fits(t, "one that is there", tree, tree.Get(3).Header, 2, late, api.OK)
	for _, b := range []uint32{0, 0x20800000, 0x2100ffff, 0x20000000} {
		other := h
		other.Bits = b
		fits(t, "one of too easy bits", tree, other, 3, late, api.ErrBits)
	}
	for _, b := range []uint32{harder, 0x203fffff, 0x2000ffff} {
		other := h
		other.Bits = b
		fits(t, "one of other bits", tree, mined(t, other), 3, late, api.ErrBits)
		fits(t, "an unproved one of other bits", tree, unproved(t, other), 3, late, api.ErrProof)
	}
}

// P10.4: Proved goes by the rules' Limit, and not by the bits that must be.
func TestFitsOfHarderOnes(t *testing.T) {
	tree := row(t, 2, 5)
	if tree.Next(1) != 0x201fffff {
		t.Fatalf("Next: %08x", tree.Next(1))
	}
	h := api.Header{Prev: tree.Get(1).ID, Time: 100010, Bits: easy}
	fits(t, "one of the limit's bits", tree, mined(t, h), 1, late, api.ErrBits)
	fits(t, "an unproved one of the limit's bits", tree, unproved(t, h), 1, late, api.ErrProof)
	h.Bits = 0x201fffff
	fits(t, "one of harder bits", tree, mined(t, h), 1, late, api.OK)
}

// P10.4: its time is above the parent's Median.
func TestFitsOfOldOnes(t *testing.T) {
	tree := row(t, 0, 10, 500, 20, 30)
	for parent, median := range []uint32{100000, 100010, 100010, 100020, 100020} {
		for time, want := range map[uint32]api.Errno{0: api.ErrOld, median - 1: api.ErrOld, median: api.ErrOld, median + 1: api.OK, median + 7200: api.OK, math.MaxUint32: api.OK} {
			fits(t, "a time", tree, behind(t, tree, parent, time, 5), parent, late, want)
		}
	}
	r := sample.Rules(0)
	r.Genesis.Time = math.MaxUint32
	tree = planted(t, r)
	fits(t, "one behind the last second", tree, behind(t, tree, 0, 0, 5), 0, late, api.ErrOld)
}

// P10.4: its time less Ahead isn't above now.
func TestFitsOfLaterOnes(t *testing.T) {
	r := sample.Rules(0)
	r.Genesis.Time = 0
	tree := planted(t, r)
	for _, time := range []uint32{1, 7199, 7200, 7201, 100000, 1<<31 - 1, 1 << 31, math.MaxUint32} {
		h := behind(t, tree, 0, time, 5)
		edge := int64(time) - 7200
		for now, want := range map[int64]api.Errno{edge: api.OK, edge + 1: api.OK, edge - 1: api.ErrFuture, math.MinInt64: api.ErrFuture, math.MaxInt64: api.OK, math.MinInt32: api.ErrFuture, 1 << 33: api.OK} {
			fits(t, "a later one", tree, h, 0, now, want)
		}
	}
}

// P10.4: what is told first.
func TestFitsInOrder(t *testing.T) {
	tree := row(t, 0, 10, 20)
	tree.Fail(2)
	old := behind(t, tree, 2, 100000, 5)
	other := old
	other.Bits = harder
	other = mined(t, other)
	fits(t, "one behind none, and all else", tree, unproved(t, other), 3, math.MinInt64, api.ErrOrphan)
	fits(t, "an unproved one, and all else", tree, unproved(t, other), 2, math.MinInt64, api.ErrProof)
	fits(t, "one that failed, and all else", tree, other, 2, math.MinInt64, api.ErrFailed)
	fits(t, "one that failed, and is old", tree, old, 2, math.MinInt64, api.ErrFailed)
	fits(t, "other bits, and all else", tree, other, 1, math.MinInt64, api.ErrBits)
	fits(t, "an old one, and a later one", tree, old, 1, math.MinInt64, api.ErrOld)
	fits(t, "a later one", tree, behind(t, tree, 1, 100011, 5), 1, math.MinInt64, api.ErrFuture)
	easier := other
	easier.Bits = 0x2100ffff
	fits(t, "too easy bits, behind one that failed", tree, easier, 2, math.MinInt64, api.ErrBits)
}

// P10.4
func TestAdd(t *testing.T) {
	tree := row(t, 0, 10, 20)
	h := behind(t, tree, 2, 100030, 5)
	added(t, "a header", tree, h, late, 3, api.OK)
	want := Node{Header: h, ID: named(h), Parent: 2, Skip: tree.Get(3).Skip, Height: 3, Work: num.Of(8)}
	if tree.Len() != 4 || tree.Get(3) != want {
		t.Errorf("what was added: %+v, want %+v", tree.Get(3), want)
	}
	if i, ok := tree.Find(named(h)); i != 3 || !ok {
		t.Errorf("Find of what was added: %d, %v", i, ok)
	}
	for i := range 4 {
		added(t, "one that is there", tree, tree.Get(i).Header, late, i, api.ErrTwice)
		added(t, "one that is there, and later than now", tree, tree.Get(i).Header, math.MinInt64, i, api.ErrTwice)
	}
	added(t, "one beside it", tree, behind(t, tree, 2, 100030, 6), late, 4, api.OK)
	added(t, "one behind the genesis", tree, behind(t, tree, 0, 100001, 7), late, 5, api.OK)
}

// P10.4: a genesis behind which no work stands is there, too.
func TestAddOfTheGenesis(t *testing.T) {
	r := sample.Rules(0)
	r.Genesis.Header = unproved(t, r.Genesis.Header)
	tree := planted(t, r)
	added(t, "the genesis", tree, r.Genesis.Header, late, 0, api.ErrTwice)
	added(t, "one behind it", tree, behind(t, tree, 0, 100001, 1), late, 1, api.OK)
}

// P10.4: Fits' errors, and what is told ahead of them.
func TestAddOfWrongOnes(t *testing.T) {
	tree := row(t, 0, 10, 20, 30)
	right := behind(t, tree, 2, 100011, 5)
	away := right
	away.Prev = named(mined(t, api.Header{Version: 99, Time: 5, Bits: easy}))
	added(t, "one behind none", tree, mined(t, away), late, -1, api.ErrOrphan)
	added(t, "an unproved one behind none", tree, unproved(t, away), late, -1, api.ErrOrphan)
	away.Prev = api.ID{}
	added(t, "one behind the zero name", tree, mined(t, away), late, -1, api.ErrOrphan)
	added(t, "an unproved one", tree, unproved(t, right), late, -1, api.ErrProof)
	other := right
	other.Bits = harder
	added(t, "one of other bits", tree, mined(t, other), late, -1, api.ErrBits)
	other.Bits = 0
	added(t, "one of no bits", tree, other, late, -1, api.ErrBits)
	added(t, "an old one", tree, behind(t, tree, 2, 100010, 5), late, -1, api.ErrOld)
	added(t, "one ahead of now", tree, right, 100011-7201, -1, api.ErrFuture)
	tree.Fail(3)
	added(t, "one behind one that failed", tree, behind(t, tree, 3, 100031, 5), late, -1, api.ErrFailed)
	added(t, "one that failed", tree, tree.Get(3).Header, late, 3, api.ErrTwice)
	added(t, "one that waited", tree, right, 100011-7200, 4, api.OK)
	if tree.Get(4).Parent != 2 || tree.Get(4).Failed {
		t.Errorf("what was added: %+v", tree.Get(4))
	}
}

// P10.4: what is refused may come again.
func TestAddAgain(t *testing.T) {
	tree := row(t, 0, 10)
	first := behind(t, tree, 1, 100011, 5)
	second := mined(t, api.Header{Prev: named(first), Time: 100012, Bits: easy})
	added(t, "the second", tree, second, late, -1, api.ErrOrphan)
	added(t, "the first", tree, first, 0, -1, api.ErrFuture)
	added(t, "the first again", tree, first, late, 2, api.OK)
	added(t, "the second again", tree, second, late, 3, api.OK)
}

// P10.4 and P10.3: harder headers have more work.
func TestWorkOfHarderOnes(t *testing.T) {
	tree := row(t, 2, 5, 10, 15, 20)
	sum := num.Num{}
	for i := range tree.Len() {
		target, _ := bits.Target(tree.Get(i).Bits)
		sum, _ = num.Add(sum, bits.Work(target))
		if tree.Get(i).Work != sum {
			t.Errorf("the work of %d: %v, want %v", i, tree.Get(i).Work, sum)
		}
	}
	if sum != num.Of(2+2+8+8+32) {
		t.Errorf("all together: %v", sum)
	}
}

// P10.5
func TestFail(t *testing.T) {
	for _, x := range []struct {
		fail, want []int
		failed     []int
	}{
		{[]int{0, -1, 8, 9, math.MinInt, math.MaxInt}, []int{0, 0, 0, 0, 0, 0}, nil},
		{[]int{7, 7}, []int{1, 0}, []int{7}},
		{[]int{1, 1}, []int{6, 0}, []int{1, 2, 3, 4, 5, 6}},
		{[]int{4, 2, 1}, []int{3, 2, 1}, []int{1, 2, 3, 4, 5, 6}},
		{[]int{2, 1}, []int{2, 4}, []int{1, 2, 3, 4, 5, 6}},
		{[]int{6, 5, 4}, []int{1, 1, 1}, []int{4, 5, 6}},
		{[]int{4, 5, 6, 0}, []int{3, 0, 0, 0}, []int{4, 5, 6}},
		{[]int{3, 1, 7}, []int{1, 5, 1}, []int{1, 2, 3, 4, 5, 6, 7}},
		{[]int{5}, []int{2}, []int{5, 6}},
	} {
		tree := forked(t)
		before := all(tree)
		for k, i := range x.fail {
			if got := tree.Fail(i); got != x.want[k] {
				t.Errorf("Fail of %v, the %d-th: %d, want %d", x.fail, k, got, x.want[k])
			}
		}
		for i := range before {
			before[i].Failed = slices.Contains(x.failed, i)
		}
		if !slices.Equal(all(tree), before) {
			t.Errorf("Fail of %v: %+v", x.fail, all(tree))
		}
	}
}

// P10.5 and P10.4: nothing comes behind what failed, but beside it.
func TestAddBehindWhatFailed(t *testing.T) {
	tree := forked(t)
	tree.Fail(4)
	for i := range 8 {
		h := behind(t, tree, i, 200000, 9)
		if i >= 4 && i <= 6 {
			added(t, "one behind what failed", tree, h, late, -1, api.ErrFailed)
		} else {
			added(t, "one beside what failed", tree, h, late, tree.Len(), api.OK)
		}
	}
	if got := tree.Fail(1); got != 6 { // 1 2 3, and those behind them
		t.Errorf("Fail of more: %d", got)
	}
}

// P10.4, P10.2 and P10.5: a tree that is full, and as high as may be.
func TestFull(t *testing.T) {
	tree := planted(t, sample.Rules(0))
	tip := 0
	for tree.Len() < 1<<14 {
		last := tree.Get(tip)
		h, _ := head.Mine(api.Header{Prev: last.ID, Time: last.Time + 1, Bits: easy}, easy, 1000)
		i, e := tree.Add(h, late)
		if e != api.OK || i != tip+1 {
			t.Fatalf("Add of %d: %d, %v", tip+1, i, e)
		}
		tip = i
	}
	for _, parent := range []int{0, 5000, tip} {
		h := behind(t, tree, parent, tree.Get(parent).Time+1, 3)
		fits(t, "one more", tree, h, parent, late, api.OK)
		added(t, "one more", tree, h, late, -1, api.ErrFull)
		added(t, "one that is later, too", tree, h, math.MinInt64, -1, api.ErrFuture)
		added(t, "one that is there", tree, tree.Get(parent).Header, late, parent, api.ErrTwice)
	}
	added(t, "one behind none", tree, mined(t, api.Header{Time: 1, Bits: easy}), late, -1, api.ErrOrphan)
	for _, i := range []int{0, 1, 2, 3, 4095, 4096, 9999, tip - 1, tip} {
		for _, height := range []int{0, 1, 2, 3, 1023, 1024, 4095, 9998, 9999, tip - 1, tip} {
			want := height
			if height > i {
				want = -1
			}
			if got := tree.Ancestor(i, height); got != want {
				t.Errorf("Ancestor of %d at %d: %d", i, height, got)
			}
		}
	}
	if tree.Get(tip).Work != num.Of(2<<14) {
		t.Errorf("the work of all: %v", tree.Get(tip).Work)
	}
	if n := tree.Fail(9000); n != 1<<14-9000 {
		t.Errorf("Fail of a part: %d", n)
	}
	if n := tree.Fail(1); n != 8999 {
		t.Errorf("Fail of the rest: %d", n)
	}
}

// plain is a tree as the chapter tells of it, in lists alone.
type plain struct {
	rules   api.Rules
	heads   []api.Header
	parents []int
	failed  []bool
}

func (p *plain) find(id api.ID) int {
	return slices.IndexFunc(p.heads, func(h api.Header) bool { return named(h) == id })
}

func (p *plain) way(i int) []int {
	if i < 0 {
		return nil
	}
	return append(p.way(p.parents[i]), i)
}

func (p *plain) median(i int) uint32 {
	var times []uint32
	for _, at := range p.way(i) {
		times = append(times, p.heads[at].Time)
	}
	times = times[max(len(times)-11, 0):]
	slices.Sort(times)
	return times[len(times)/2]
}

func (p *plain) next(i int) uint32 {
	way, every := p.way(i), p.rules.Every
	if every == 0 || len(way)%every != 0 {
		return p.heads[i].Bits
	}
	took := int64(p.heads[i].Time) - int64(p.heads[way[len(way)-every]].Time)
	limit, _ := bits.Target(p.rules.Limit)
	b, _ := bits.Next(p.heads[i].Bits, took, int64(every*p.rules.Spacing), limit)
	return b
}

func (p *plain) fits(h api.Header, parent int, now int64) api.Errno {
	if parent < 0 || parent >= len(p.heads) {
		return api.ErrOrphan
	}
	if e := head.Proved(h, p.rules.Limit); e != api.OK {
		return e
	}
	if p.failed[parent] {
		return api.ErrFailed
	}
	if h.Bits != p.next(parent) {
		return api.ErrBits
	}
	if h.Time <= p.median(parent) {
		return api.ErrOld
	}
	if int64(h.Time)-7200 > now {
		return api.ErrFuture
	}
	return api.OK
}

func (p *plain) add(h api.Header, now int64) (int, api.Errno) {
	if i := p.find(named(h)); i >= 0 {
		return i, api.ErrTwice
	}
	parent := p.find(h.Prev)
	if e := p.fits(h, parent, now); e != api.OK {
		return -1, e
	}
	p.heads, p.parents, p.failed = append(p.heads, h), append(p.parents, parent), append(p.failed, false)
	return len(p.heads) - 1, api.OK
}

func (p *plain) fail(i int) int {
	n := 0
	for at := range p.heads {
		if i > 0 && slices.Contains(p.way(at), i) && !p.failed[at] {
			p.failed[at] = true
			n++
		}
	}
	return n
}

// compare holds all that a tree tells against the plain one.
func (p *plain) compare(t *testing.T, tree *Tree) {
	t.Helper()
	if tree.Len() != len(p.heads) {
		t.Fatalf("Len: %d, want %d", tree.Len(), len(p.heads))
	}
	for i, h := range p.heads {
		way := p.way(i)
		work := num.Num{}
		for _, at := range way {
			target, _ := bits.Target(p.heads[at].Bits)
			work, _ = num.Add(work, bits.Work(target))
		}
		got := tree.Get(i)
		want := Node{Header: h, ID: named(h), Parent: p.parents[i], Skip: got.Skip, Height: len(way) - 1, Work: work, Failed: p.failed[i]}
		if got != want || i > 0 && (got.Skip == i || !slices.Contains(way, got.Skip)) {
			t.Fatalf("Get of %d: %+v, want %+v", i, got, want)
		}
		if at, ok := tree.Find(want.ID); at != i || !ok {
			t.Fatalf("Find of %d: %d, %v", i, at, ok)
		}
		if tree.Median(i) != p.median(i) || tree.Next(i) != p.next(i) {
			t.Fatalf("Median and Next of %d: %d, %08x, want %d, %08x", i, tree.Median(i), tree.Next(i), p.median(i), p.next(i))
		}
		for height, at := range way {
			if tree.Ancestor(i, height) != at {
				t.Fatalf("Ancestor of %d at %d: %d, want %d", i, height, tree.Ancestor(i, height), at)
			}
		}
		for at := range p.heads {
			if tree.On(at, i) != slices.Contains(way, at) {
				t.Fatalf("On of %d and %d: %v", at, i, tree.On(at, i))
			}
		}
	}
}

// any is a header that may stand in the tree, or has something wrong about it, and when it comes.
func (p *plain) any(d *sample.Dice) (api.Header, int64) {
	if d.Below(10) == 0 {
		return p.heads[d.Below(len(p.heads))], int64(d.Next())
	}
	parent := max(d.Below(len(p.heads)), d.Below(len(p.heads)))
	h := api.Header{Version: uint32(d.Next()), Prev: named(p.heads[parent]), Time: p.median(parent) + uint32(d.Below(50)), Bits: p.next(parent)}
	switch d.Below(20) {
	case 0:
		h.Prev = d.ID()
	case 1:
		h.Bits = harder
	case 2:
		h.Bits = 0
	case 3:
		return h, late
	}
	if m, ok := head.Mine(h, easy, 3000); ok {
		h = m
	}
	return h, int64(h.Time) - 7203 + int64(d.Below(30))
}

// P10.1 to P10.5: whatever comes, a tree tells what the chapter says.
func TestAny(t *testing.T) {
	for seed, every := range []int{0, 2, 3, 4, 7, 1000} {
		d := sample.Dice(seed)
		tree := planted(t, sample.Rules(every))
		p := &plain{rules: sample.Rules(every), heads: []api.Header{sample.Rules(every).Genesis.Header}, parents: []int{-1}, failed: []bool{false}}
		told := map[api.Errno]int{}
		for range 400 {
			if d.Below(80) == 0 {
				i := d.Below(len(p.heads)+2) - 1
				if got, want := tree.Fail(i), p.fail(i); got != want {
					t.Fatalf("Fail of %d: %d, want %d", i, got, want)
				}
			}
			h, now := p.any(&d)
			at := d.Below(len(p.heads)+2) - 1
			if got, want := tree.Fits(h, at, now), p.fits(h, at, now); got != want {
				t.Fatalf("Fits of %+v behind %d: %v, want %v", h, at, got, want)
			}
			i, e := tree.Add(h, now)
			wantI, wantE := p.add(h, now)
			if i != wantI || e != wantE {
				t.Fatalf("Add of %+v: %d, %v, want %d, %v", h, i, e, wantI, wantE)
			}
			told[e]++
		}
		p.compare(t, tree)
		for _, e := range []api.Errno{api.OK, api.ErrTwice, api.ErrOrphan, api.ErrProof, api.ErrFailed, api.ErrBits, api.ErrOld, api.ErrFuture} {
			if told[e] == 0 {
				t.Errorf("with the bits changing every %d nothing was told as %v: %v", every, e, told)
			}
		}
	}
}

// P1: of wrong numbers, too.
func TestAnyArguments(t *testing.T) {
	numbers := []int{math.MinInt, -1 << 32, -2, -1, 0, 1, 7, 8, 1 << 14, 1 << 32, math.MaxInt}
	for _, every := range []int{0, 1, 2, 1000} {
		tree := planted(t, sample.Rules(every))
		for _, a := range numbers {
			tree.Get(a)
			tree.Median(a)
			tree.Next(a)
			tree.Fail(a)
			for _, b := range numbers {
				tree.Ancestor(a, b)
				tree.On(a, b)
				for _, h := range []api.Header{{}, {Bits: math.MaxUint32, Time: math.MaxUint32}, tree.Get(0).Header} {
					tree.Fits(h, a, int64(b))
					tree.Add(h, int64(b))
				}
			}
			for _, b := range numbers {
				Check(api.Rules{Limit: uint32(a), Every: a, Spacing: b, Subsidy: int64(b), Work: a})
				New(api.Rules{Limit: easy, Every: b, Spacing: a, Subsidy: int64(a), Work: b})
			}
		}
		if tree.Len() != 1 {
			t.Errorf("%d headers", tree.Len())
		}
	}
	if n := planted(t, sample.Rules(0)).Median(5) + planted(t, sample.Rules(1)).Next(-1); n != 0 {
		t.Errorf("Median and Next of none: %d", n)
	}
}

// P2: trees are apart, by the same rules too, and what is called on them alone counts.
func TestTreesAreApart(t *testing.T) {
	one, two, three := forked(t), forked(t), planted(t, sample.Rules(0))
	if !slices.Equal(all(one), all(two)) {
		t.Error("the same calls have made unlike trees")
	}
	n := one.Get(3)
	n.Time, n.Failed = 5, true
	if !slices.Equal(all(one), all(two)) {
		t.Error("the tree hands out what it keeps")
	}
	one.Fail(1)
	grown(t, one, 0, 50)
	if two.Get(1).Failed || two.Len() != 8 || three.Len() != 1 {
		t.Error("what is called on one tree changes others")
	}
}
