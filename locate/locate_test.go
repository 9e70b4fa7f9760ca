package locate

import (
	"math"
	"slices"
	"testing"

	"tallystick/api"
	"tallystick/head"
	"tallystick/index"
	"tallystick/sample"
)

// planted is a tree of the genesis and a header behind each of parents, in order.
func planted(t *testing.T, parents ...int) *index.Tree {
	t.Helper()
	tree, e := index.New(sample.Rules(0))
	if e != api.OK {
		t.Fatalf("New: %v", e)
	}
	for mark, parent := range parents {
		h := sample.Behind(tree.Get(parent).Header, mark)
		if i, e := tree.Add(h, math.MaxInt64); i != mark+1 || e != api.OK {
			t.Fatalf("Add behind %d: %d, %v", parent, i, e)
		}
	}
	return tree
}

// forked is a tree of ten: 0 1 2 3 4 in a row, 5 6 behind 2, 7 behind 5, 8 9 behind 0.
func forked(t *testing.T) *index.Tree {
	t.Helper()
	return planted(t, 0, 1, 2, 3, 2, 5, 5, 0, 8)
}

// row is a tree of so many headers behind the genesis, one behind the other, and, behind that of the height at, as many others.
func row(t *testing.T, many, at, others int) *index.Tree {
	t.Helper()
	var parents []int
	for i := range many {
		parents = append(parents, i)
	}
	for i := range others {
		if i == 0 {
			parents = append(parents, at)
		} else {
			parents = append(parents, len(parents))
		}
	}
	return planted(t, parents...)
}

// ids are the names of headers.
func ids(tree *index.Tree, numbers ...int) []api.ID {
	var list []api.ID
	for _, i := range numbers {
		list = append(list, tree.Get(i).ID)
	}
	return list
}

// heads are the headers of numbers.
func heads(tree *index.Tree, numbers ...int) []api.Header {
	var list []api.Header
	for _, i := range numbers {
		list = append(list, tree.Get(i).Header)
	}
	return list
}

// way is all numbers on the way to i, itself the last.
func way(tree *index.Tree, i int) []int {
	if i < 0 {
		return nil
	}
	return append(way(tree, tree.Get(i).Parent), i)
}

func TestLimits(t *testing.T) {
	if Close != 10 {
		t.Errorf("Close: %d", Close)
	}
}

// down is the numbers from one down to another one.
func down(from, to int) []int {
	var list []int
	for n := from; n >= to; n-- {
		list = append(list, n)
	}
	return list
}

// P11.1; the document's example, too.
func TestHeights(t *testing.T) {
	for top, want := range map[int][]int{
		math.MinInt: nil,
		-2:          nil,
		-1:          nil,
		0:           {0},
		1:           {1, 0},
		2:           {2, 1, 0},
		9:           down(9, 0),
		10:          down(10, 0),
		11:          down(11, 0),               // behind the eleventh, which is 1, there is none
		12:          append(down(12, 2), 0),    // 0 is told once
		13:          append(down(13, 3), 1, 0), // 2 lower than the eleventh
		14:          append(down(14, 4), 2, 0),
		15:          append(down(15, 5), 3, 0),
		16:          append(down(16, 6), 4, 0),    // the next is just 0
		17:          append(down(17, 7), 5, 1, 0), // 4 lower than that
		24:          append(down(24, 14), 12, 8, 0),
		25:          append(down(25, 15), 13, 9, 1, 0),
		100:         append(down(100, 90), 88, 84, 76, 60, 28, 0),
		16383:       append(down(16383, 16373), 16371, 16367, 16359, 16343, 16311, 16247, 16119, 15863, 15351, 14327, 12279, 8183, 0),
	} {
		if got := Heights(top); !slices.Equal(got, want) {
			t.Errorf("Heights of %d: %d, want %d", top, got, want)
		}
	}
}

// lower is by how much the heights are lower than the top, as long as there is room for them.
func lower() []int {
	list := []int{0, 1, 2, 3, 4, 5, 6, 7, 8, 9, 10}
	for step := 2; len(list) < 31; step *= 2 {
		list = append(list, list[len(list)-1]+step)
	}
	return list
}

// P11.1: where the room ends, too.
func TestAllHeights(t *testing.T) {
	tops := []int{math.MaxInt32, math.MaxInt - 1, math.MaxInt}
	last := lower()[30]
	for n := range 3000 {
		tops = append(tops, n, last-1500+n)
	}
	for _, top := range tops {
		var want []int
		for _, less := range lower() {
			if less < top {
				want = append(want, top-less)
			}
		}
		want = append(want, 0)
		if got := Heights(top); !slices.Equal(got, want) {
			t.Fatalf("Heights of %d: %d, want %d", top, got, want)
		}
	}
	if got := Heights(last); len(got) != 31 {
		t.Errorf("Heights of %d, whose last is 0: %d", last, len(got))
	}
	for _, top := range []int{last + 1, last + 2, 2 * last, math.MaxInt} {
		if got := Heights(top); len(got) != 32 || got[30] != top-last || got[31] != 0 {
			t.Errorf("Heights of %d: %d", top, got)
		}
	}
}

// P11.1; the document's example, too.
func TestNames(t *testing.T) {
	tree := forked(t)
	for tip, want := range [][]int{{0}, {1, 0}, {2, 1, 0}, {3, 2, 1, 0}, {4, 3, 2, 1, 0}, {5, 2, 1, 0}, {6, 5, 2, 1, 0}, {7, 5, 2, 1, 0}, {8, 0}, {9, 8, 0}} {
		if got := Names(tree, tip); !slices.Equal(got, ids(tree, want...)) {
			t.Errorf("Names of %d: %x, want those of %d", tip, got, want)
		}
	}
	for _, tip := range []int{-1, -2, 10, 11, math.MinInt, math.MaxInt} {
		if got := Names(tree, tip); len(got) != 0 {
			t.Errorf("Names of %d, which isn't there: %x", tip, got)
		}
	}
}

// P11.1: of higher ones, on their way alone.
func TestNamesOfHighOnes(t *testing.T) {
	tree := row(t, 60, 30, 70)
	for _, tip := range []int{11, 12, 13, 30, 59, 60, 61, 100, 129, 130} {
		on := way(tree, tip)
		var want []api.ID
		for _, less := range lower() {
			if less < len(on)-1 {
				want = append(want, tree.Get(on[len(on)-1-less]).ID)
			}
		}
		want = append(want, tree.Get(0).ID)
		if got := Names(tree, tip); !slices.Equal(got, want) {
			t.Errorf("Names of %d", tip)
		}
	}
}

// P11.2
func TestFork(t *testing.T) {
	tree := forked(t)
	d := sample.Dice(1)
	away := append(d.IDs(3), api.ID{}, head.ID(sample.Behind(tree.Get(4).Header, 50)))
	for what, x := range map[string]struct {
		tip   int
		names []api.ID
		want  int
	}{
		"none":                       {4, nil, 0},
		"names that aren't there":    {4, away, 0},
		"the tip":                    {4, ids(tree, 4), 4},
		"the tip, and others":        {4, ids(tree, 4, 3, 2, 1, 0), 4},
		"one on the way":             {4, ids(tree, 2), 2},
		"the lower one first":        {4, ids(tree, 1, 3), 1},
		"the genesis first":          {4, ids(tree, 0, 3), 0},
		"the genesis":                {4, ids(tree, 0), 0},
		"others ahead":               {4, slices.Concat(away, ids(tree, 3), away, ids(tree, 4)), 3},
		"those of another way":       {4, ids(tree, 7, 5, 2, 1, 0), 2},
		"those of another way alone": {4, ids(tree, 5, 6, 7, 8, 9), 0},
		"those behind the tip":       {1, ids(tree, 4, 3, 2, 5, 6), 0},
		"behind the tip, and it":     {2, ids(tree, 4, 3, 5, 6, 7, 2, 1), 2},
		"the genesis as the tip":     {0, ids(tree, 9, 8, 4, 1, 0), 0},
		"another tip":                {7, ids(tree, 6, 4, 3, 5), 5},
		"one twice":                  {7, ids(tree, 5, 5), 5},
	} {
		if got := Fork(tree, x.tip, x.names...); got != x.want {
			t.Errorf("Fork of %s: %d, want %d", what, got, x.want)
		}
	}
}

// P11.2 and P11.1: by the names of another tree the last one that both have, or one not far ahead of it.
func TestForkOfNames(t *testing.T) {
	one, other := row(t, 40, 0, 0), row(t, 25, 0, 0)
	tip := 25
	for mark := range 30 {
		tip, _ = other.Add(sample.Behind(other.Get(tip).Header, 100+mark), math.MaxInt64)
	}
	for at, want := range map[int]int{55: 15, 40: 24, 36: 24, 35: 25, 26: 25, 25: 25, 24: 24, 10: 10, 0: 0} {
		if got := Fork(one, 40, Names(other, at)...); got != want {
			t.Errorf("Fork of the names of %d: %d, want %d", at, got, want)
		}
	}
}

// P11.3
func TestAfter(t *testing.T) {
	tree := forked(t)
	stray := sample.Dice(2)
	nowhere := stray.ID()
	for what, x := range map[string]struct {
		tip, from int
		stop      api.ID
		most      int
		want      []int
	}{
		"all":                            {4, 0, api.ID{}, 32, []int{1, 2, 3, 4}},
		"all, just as many":              {4, 0, api.ID{}, 4, []int{1, 2, 3, 4}},
		"one less":                       {4, 0, api.ID{}, 3, []int{1, 2, 3}},
		"one":                            {4, 0, api.ID{}, 1, []int{1}},
		"at most none":                   {4, 0, api.ID{}, 0, nil},
		"at most less than none":         {4, 0, api.ID{}, -1, nil},
		"at most the least":              {4, 0, api.ID{}, math.MinInt, nil},
		"at most the greatest":           {4, 1, api.ID{}, math.MaxInt, []int{2, 3, 4}},
		"behind the middle":              {4, 2, api.ID{}, 32, []int{3, 4}},
		"behind the middle, one":         {4, 2, api.ID{}, 1, []int{3}},
		"behind the tip":                 {4, 4, api.ID{}, 32, nil},
		"behind the genesis alone":       {0, 0, api.ID{}, 32, nil},
		"another way":                    {7, 0, api.ID{}, 32, []int{1, 2, 5, 7}},
		"another way, behind its fork":   {7, 2, api.ID{}, 2, []int{5, 7}},
		"behind one of another way":      {4, 5, api.ID{}, 32, nil},
		"behind one of another way, too": {7, 3, api.ID{}, 32, nil},
		"behind one that is higher":      {2, 3, api.ID{}, 32, nil},
		"behind none":                    {4, -1, api.ID{}, 32, nil},
		"behind none, too":               {4, 10, api.ID{}, 32, nil},
		"to none":                        {-1, 0, api.ID{}, 32, nil},
		"to none, too":                   {10, 0, api.ID{}, 32, nil},
		"up to one":                      {4, 0, ids(tree, 3)[0], 32, []int{1, 2, 3}},
		"up to the next one":             {4, 2, ids(tree, 3)[0], 32, []int{3}},
		"up to the tip":                  {4, 0, ids(tree, 4)[0], 32, []int{1, 2, 3, 4}},
		"up to one, fewer":               {4, 0, ids(tree, 3)[0], 2, []int{1, 2}},
		"up to one, as many":             {4, 0, ids(tree, 3)[0], 3, []int{1, 2, 3}},
		"up to itself":                   {4, 2, ids(tree, 2)[0], 32, nil},
		"up to one ahead of it":          {4, 2, ids(tree, 1)[0], 32, nil},
		"up to the genesis":              {4, 2, ids(tree, 0)[0], 32, nil},
		"the genesis up to itself":       {4, 0, ids(tree, 0)[0], 32, nil},
		"up to one ahead of it, fewer":   {4, 2, ids(tree, 1)[0], math.MinInt, nil},
		"up to one behind the tip":       {2, 0, ids(tree, 3)[0], 32, []int{1, 2}},
		"up to one of another way":       {4, 0, ids(tree, 5)[0], 32, []int{1, 2, 3, 4}},
		"up to one of another way, too":  {9, 0, ids(tree, 1)[0], 32, []int{8, 9}},
		"up to none":                     {4, 1, nowhere, 32, []int{2, 3, 4}},
	} {
		if got := After(tree, x.tip, x.from, x.stop, x.most); !slices.Equal(got, heads(tree, x.want...)) {
			t.Errorf("After of %s: %+v, want those of %d", what, got, x.want)
		}
	}
}

// P11.4; the document's example, too.
func TestMeet(t *testing.T) {
	two := planted(t, 0, 0)
	if Meet(two, 1, 2) != 0 || Meet(two, 2, 1) != 0 {
		t.Errorf("two behind one meet at %d", Meet(two, 1, 2))
	}
	tree := forked(t)
	for _, x := range [][3]int{{0, 0, 0}, {4, 4, 4}, {7, 7, 7}, {0, 4, 0}, {1, 4, 1}, {3, 4, 3}, {4, 7, 2}, {4, 6, 2}, {3, 5, 2}, {4, 5, 2}, {6, 7, 5}, {5, 7, 5}, {2, 6, 2}, {4, 9, 0}, {1, 8, 0}, {7, 9, 0}, {8, 9, 8}} {
		if one, other := Meet(tree, x[0], x[1]), Meet(tree, x[1], x[0]); one != x[2] || other != x[2] {
			t.Errorf("%d and %d meet at %d and %d, want %d", x[0], x[1], one, other, x[2])
		}
	}
}

// P11.4
func TestWay(t *testing.T) {
	tree := forked(t)
	for _, x := range []struct {
		from, to int
		want     []int
	}{
		{0, 0, nil}, {4, 4, nil}, {0, 4, []int{1, 2, 3, 4}}, {0, 1, []int{1}}, {2, 4, []int{3, 4}}, {3, 4, []int{4}},
		{0, 7, []int{1, 2, 5, 7}}, {2, 7, []int{5, 7}}, {1, 6, []int{2, 5, 6}}, {0, 9, []int{8, 9}}, {8, 9, []int{9}},
		{4, 0, nil}, {4, 3, nil}, {3, 7, nil}, {5, 4, nil}, {4, 7, nil}, {1, 9, nil}, {6, 7, nil},
		{-1, 4, nil}, {10, 4, nil}, {0, -1, nil}, {0, 10, nil}, {-1, -1, nil}, {10, 10, nil}, {math.MinInt, 4, nil}, {0, math.MaxInt, nil},
	} {
		if got := Way(tree, x.from, x.to); !slices.Equal(got, x.want) {
			t.Errorf("Way from %d to %d: %d, want %d", x.from, x.to, got, x.want)
		}
	}
}

// P11.1 to P11.4: of trees of any shape each call tells what the chapter says, of those that failed, too.
func TestAny(t *testing.T) {
	for seed := range 6 {
		d := sample.Dice(seed)
		var parents []int
		for i := range 60 {
			parents = append(parents, max(d.Below(i+1), i-d.Below(1+seed)))
		}
		tree := planted(t, parents...)
		tree.Fail(1 + d.Below(60))
		for a := range tree.Len() {
			for b := range tree.Len() {
				pair(t, tree, &d, a, b)
			}
		}
	}
}

// pair holds what is told of two headers against the ways to them.
func pair(t *testing.T, tree *index.Tree, d *sample.Dice, a, b int) {
	t.Helper()
	toA, toB := way(tree, a), way(tree, b)
	met := 0
	for k := range min(len(toA), len(toB)) {
		if toA[k] == toB[k] {
			met = toA[k]
		}
	}
	if got := Meet(tree, a, b); got != met {
		t.Fatalf("%d and %d meet at %d, want %d", a, b, got, met)
	}
	var want []int
	if at := slices.Index(toB, a); at >= 0 {
		want = toB[at+1:]
	}
	if got := Way(tree, a, b); !slices.Equal(got, want) {
		t.Fatalf("Way from %d to %d: %d, want %d", a, b, got, want)
	}
	stop, most := d.Below(tree.Len()), d.Below(12)
	if at := slices.Index(toB, stop); at >= 0 {
		want = slices.DeleteFunc(slices.Clone(want), func(i int) bool { return slices.Contains(toB[at+1:], i) })
	}
	want = want[:min(most, len(want))]
	if got := After(tree, b, a, tree.Get(stop).ID, most); !slices.Equal(got, heads(tree, want...)) {
		t.Fatalf("After of %d to %d, at most %d, up to %d: %d, want %d", a, b, most, stop, got, want)
	}
	fork := 0
	names := d.IDs(d.Below(2))
	for range d.Below(5) {
		i := d.Below(tree.Len())
		names = append(names, tree.Get(i).ID)
		if fork == 0 && !slices.Contains(names[:len(names)-1], tree.Get(0).ID) && slices.Contains(toB, i) {
			fork = i
		}
	}
	if got := Fork(tree, b, names...); got != fork {
		t.Fatalf("Fork to %d: %d, want %d", b, got, fork)
	}
}

// P11.1 to P11.4: of a tree that is as high as may be, and of two long ways.
func TestHigh(t *testing.T) {
	const part = 6000
	tree := row(t, 10000, part, index.MaxNodes-10001)
	one, other := 10000, tree.Len()-1
	if tree.Len() != index.MaxNodes || tree.Get(other).Height != part+other-one {
		t.Fatalf("%d headers, the last one's height %d", tree.Len(), tree.Get(other).Height)
	}
	for range 1000 {
		if got := Meet(tree, one, other); got != part {
			t.Fatalf("they meet at %d", got)
		}
	}
	if got := Way(tree, 0, other); len(got) != tree.Get(other).Height || got[0] != 1 || got[part-1] != part || got[part] != one+1 || got[len(got)-1] != other {
		t.Error("Way of a long one")
	}
	if got := Fork(tree, one, Names(tree, other)...); got != 12383-10-8190 { // 8190 is 2 + 4 + .. + 4096
		t.Errorf("Fork of the names of a long one: %d", got)
	}
	for range 1000 {
		if got := After(tree, other, part-1, api.ID{}, 32); len(got) != 32 || got[0] != tree.Get(part).Header || got[31] != tree.Get(one+31).Header {
			t.Fatal("After of a long one")
		}
	}
	if got := After(tree, one, 0, tree.Get(other).ID, math.MaxInt); len(got) != one {
		t.Errorf("After of all: %d", len(got))
	}
}

// P1: of wrong numbers, too; and nothing is changed by it.
func TestAnyArguments(t *testing.T) {
	numbers := []int{math.MinInt, math.MinInt + 1, -1 << 32, -2, -1, 0, 1, 4, 7, 9, 10, 11, 1 << 14, 1 << 32, math.MaxInt - 1, math.MaxInt}
	tree := forked(t)
	for _, tree := range []*index.Tree{tree, planted(t)} {
		for _, a := range numbers {
			Heights(a)
			Names(tree, a)
			for _, b := range numbers {
				Meet(tree, a, b)
				Way(tree, a, b)
				for _, most := range numbers {
					After(tree, a, b, tree.Get(2).ID, most)
					Fork(tree, a, tree.Get(b).ID, api.ID{}, tree.Get(most).ID)
				}
			}
			if got := Fork(tree, a); got != 0 {
				t.Errorf("Fork of none: %d", got)
			}
		}
	}
	if again := forked(t); !slices.Equal(heads(tree, way(tree, 4)...), heads(again, way(again, 4)...)) || tree.Len() != 10 {
		t.Error("the tree has changed")
	}
}

// P2: names that were handed in aren't changed; what is answered is new, its spare room too.
func TestApart(t *testing.T) {
	tree := row(t, 30, 12, 9)
	names := slices.Grow(ids(tree, 35, 33, 14, 13), 4)
	sample.Change(names[4:8], api.ID{7})
	before := slices.Clone(names[:8])
	Fork(tree, 30, names...)
	if !slices.Equal(names[:8], before) {
		t.Error("names that were handed in have changed")
	}
	heights, listed, after, on := Heights(30), Names(tree, 30), After(tree, 30, 2, api.ID{}, 20), Way(tree, 2, 30)
	wantHeights, wantListed, wantAfter, wantOn := slices.Clone(heights), slices.Clone(listed), slices.Clone(after), slices.Clone(on)
	sample.Change(Heights(30), 5)
	sample.Change(Names(tree, 30), api.ID{5})
	sample.Change(After(tree, 30, 2, api.ID{}, 20), api.Header{Time: 5})
	sample.Change(Way(tree, 2, 30), 5)
	if !slices.Equal(heights, wantHeights) || !slices.Equal(listed, wantListed) || !slices.Equal(after, wantAfter) || !slices.Equal(on, wantOn) {
		t.Error("answers share memory")
	}
	if !slices.Equal(Heights(30), wantHeights) || !slices.Equal(Names(tree, 30), wantListed) || !slices.Equal(After(tree, 30, 2, api.ID{}, 20), wantAfter) || !slices.Equal(Way(tree, 2, 30), wantOn) {
		t.Error("what is kept is handed out")
	}
}
