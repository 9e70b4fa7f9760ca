package merkle

import (
	"bytes"
	"crypto/sha256"
	"math"
	"slices"
	"testing"

	"tallystick/api"
)

// name is a sum unlike those of other numbers.
func name(n int) api.ID {
	return sha256.Sum256([]byte{byte(n), byte(n >> 8), byte(n >> 16), 7})
}

func names(n int) []api.ID {
	list := make([]api.ID, n)
	for i := range list {
		list[i] = name(i)
	}
	return list
}

// join is a list of the names of these numbers.
func join(numbers ...int) []api.ID {
	var list []api.ID
	for _, n := range numbers {
		list = append(list, name(n))
	}
	return list
}

// both is the standard's sum of the sum of two.
func both(a, b api.ID) api.ID {
	once := sha256.Sum256(slices.Concat(a[:], b[:]))
	return sha256.Sum256(once[:])
}

// levels are all of a list that isn't empty, from the lowest one on, each filled up to an even number by its last one (but the highest).
func levels(list []api.ID) [][]api.ID {
	level := slices.Clone(list)
	if len(level) == 1 {
		return [][]api.ID{level}
	}
	if len(level)%2 == 1 {
		level = append(level, level[len(level)-1])
	}
	var next []api.ID
	for two := range slices.Chunk(level, 2) {
		next = append(next, both(two[0], two[1]))
	}
	return append([][]api.ID{level}, levels(next)...)
}

func wantRoot(list []api.ID) api.ID {
	all := levels(list)
	return all[len(all)-1][0]
}

func wantWay(at int, list []api.ID) []api.ID {
	all := levels(list)
	var way []api.ID
	for _, level := range all[:len(all)-1] {
		way = append(way, level[at^1])
		at /= 2
	}
	return way
}

// P4.1

func TestRootOfNone(t *testing.T) {
	for _, list := range [][]api.ID{nil, {}} {
		if root, same := Root(list...); root != (api.ID{}) || same {
			t.Errorf("%x %v", root, same)
		}
	}
}

func TestRootOfOne(t *testing.T) {
	for _, id := range []api.ID{{}, name(1), {31: 1}} {
		if root, same := Root(id); root != id || same {
			t.Errorf("of %x: %x %v", id, root, same)
		}
	}
}

func TestRootOfFew(t *testing.T) {
	a, b, c, d, e := name(0), name(1), name(2), name(3), name(4)
	ab, cd, ee := both(a, b), both(c, d), both(e, e)
	for n, want := range map[int]api.ID{
		2: ab,
		3: both(ab, both(c, c)),
		4: both(ab, cd),
		5: both(both(ab, cd), both(ee, ee)), // the last one is alone at two levels
		6: both(both(ab, cd), both(both(e, name(5)), both(e, name(5)))),
	} {
		if root, same := Root(names(n)...); root != want || same {
			t.Errorf("of %d: %x %v, want %x", n, root, same, want)
		}
	}
	if root, _ := Root(b, a); root != both(b, a) || root == ab {
		t.Error("the order must count")
	}
}

// A list of four whose root is known.
func TestRootThatIsKnown(t *testing.T) {
	root, same := Root(api.ID{1}, api.ID{2}, api.ID{3}, api.ID{4})
	want := api.ID{0x31, 0x0b, 0xcc, 0xc9, 0x84, 0x63, 0xfb, 0x70, 0x7e, 0x51, 0xca, 0x51, 0x1a, 0xf6, 0x3e, 0xb6, 0xff, 0xd9, 0x76, 0xcc, 0x9a, 0x06, 0xa8, 0x34, 0xdd, 0x9e, 0xb8, 0x4f, 0x82, 0x3d, 0x85, 0x9c}
	if root != want || same {
		t.Errorf("%x %v, want %x", root, same, want)
	}
}

func TestRootOfMany(t *testing.T) {
	for _, n := range append([]int{127, 128, 129, 255, 256, 257, 1000, 1023, 1025}, slices.Collect(upTo(1, 70))...) {
		list := names(n)
		if root, same := Root(list...); root != wantRoot(list) || same {
			t.Errorf("of %d: %x %v, want %x", n, root, same, wantRoot(list))
		}
	}
}

func upTo(first, last int) func(func(int) bool) {
	return func(yield func(int) bool) {
		for n := first; n <= last && yield(n); n++ {
		}
	}
}

// P4.2

func TestTheSameAreTold(t *testing.T) {
	for _, c := range []struct {
		what string
		list []api.ID
		want bool
	}{
		{"two", join(1, 1), true},
		{"two of zero", make([]api.ID, 2), true},
		{"three of zero", make([]api.ID, 3), true},
		{"two unlike ones", join(1, 2), false},
		{"the last one is alone", join(1, 2, 3), false},
		{"the last one is alone, as the one ahead of it", join(1, 2, 2), false},
		{"the first two of three", join(1, 1, 2), true},
		{"the last two of four", join(1, 2, 3, 3), true},
		{"the first two of four", join(1, 1, 2, 3), true},
		{"side by side, but no pair", join(1, 2, 2, 3), false},
		{"the first and the last one", join(1, 2, 3, 1), false},
		{"in other pairs", join(1, 2, 2, 1), false},
		{"one place in two pairs", join(1, 2, 1, 3), false},
		{"two pairs", join(1, 2, 1, 2), true},
		{"two pairs, the second one of which is alone above", join(1, 2, 3, 4, 3, 4), false},
		{"the same, but doubled above", join(1, 2, 3, 4, 5, 6, 5, 6), true},
		{"the first pairs of eight", join(1, 2, 1, 2, 3, 4, 5, 6), true},
		{"two fours", join(1, 2, 3, 4, 1, 2, 3, 4), true},
		{"two fours, turned", join(1, 2, 3, 4, 3, 4, 1, 2), false},
		{"two threes", join(1, 2, 3, 1, 2, 3), false},
		{"a pair of five", join(1, 2, 3, 3, 4), true},
		{"the last one of five, alone as its neighbour", join(1, 2, 3, 4, 4), false},
		{"the last two of six", join(1, 2, 3, 4, 5, 5), true},
		{"told below, not above", join(1, 1, 2, 3, 4, 5, 6, 7), true},
		{"told above the middle alone", slices.Concat(names(8), names(8)), true},
		{"sixteen unlike ones", names(16), false},
		{"seventeen unlike ones", names(17), false},
	} {
		if root, same := Root(c.list...); same != c.want || root != wantRoot(c.list) {
			t.Errorf("%s: %x %v, want %x %v", c.what, root, same, wantRoot(c.list), c.want)
		}
	}
}

// A list whose last ones are doubled has the root of the one where they aren't, and alone is told.
func TestDoubledListsAreTold(t *testing.T) {
	for n := 2; n <= 40; n++ {
		list := names(n)
		root, same := Root(list...)
		if same {
			t.Errorf("%d unlike ones are told", n)
		}
		for size := 1; size < n; size *= 2 {
			if n%size != 0 || n/size%2 == 0 {
				continue
			}
			doubled := slices.Concat(list, list[n-size:])
			if other, same := Root(doubled...); other != root || !same {
				t.Errorf("%d, the last %d doubled: %x %v, want %x and true", n, size, other, same, root)
			}
		}
	}
}

// P4.3

func TestWayOfAllPlaces(t *testing.T) {
	for n := 1; n <= 9; n++ {
		list := names(n)
		root := wantRoot(list)
		for at := range n {
			way, e := Way(at, list...)
			if e != api.OK || !slices.Equal(way, wantWay(at, list)) {
				t.Errorf("%d of %d: %x %v, want %x", at, n, way, e, wantWay(at, list))
			}
			if got := Leads(list[at], at, way...); got != root {
				t.Errorf("%d of %d leads to %x, want %x", at, n, got, root)
			}
		}
	}
}

func TestWaysOfMany(t *testing.T) {
	for _, n := range []int{31, 32, 33, 63, 65, 100, 127} {
		list := names(n)
		root, _ := Root(list...)
		for at := range n {
			way, e := Way(at, list...)
			if e != api.OK || !slices.Equal(way, wantWay(at, list)) || Leads(list[at], at, way...) != root {
				t.Errorf("%d of %d: %x %v", at, n, way, e)
			}
		}
	}
}

func TestWayOfFew(t *testing.T) {
	a, b, c := name(0), name(1), name(2)
	for _, x := range []struct {
		at   int
		list []api.ID
		want []api.ID
	}{
		{0, join(0), nil},
		{0, join(0, 1), []api.ID{b}},
		{1, join(0, 1), []api.ID{a}},
		{0, join(0, 1, 2), []api.ID{b, both(c, c)}},
		{2, join(0, 1, 2), []api.ID{c, both(a, b)}}, // alone: it itself is beside it
		{4, join(0, 1, 2, 3, 4), []api.ID{name(4), both(name(4), name(4)), both(both(a, b), both(c, name(3)))}},
	} {
		if way, e := Way(x.at, x.list...); e != api.OK || !slices.Equal(way, x.want) {
			t.Errorf("%d of %d: %x %v, want %x", x.at, len(x.list), way, e, x.want)
		}
	}
}

func TestWayOfNoPlace(t *testing.T) {
	for n := range 10 {
		for _, at := range []int{-1, -2, n, n + 1, n + n%2 + 1, 2*n + 1, math.MinInt, math.MaxInt, math.MinInt + 1} {
			if way, e := Way(at, names(n)...); e != api.ErrRange || len(way) != 0 {
				t.Errorf("%d of %d: %x %v", at, n, way, e)
			}
		}
	}
	if way, e := Way(0); e != api.ErrRange || len(way) != 0 {
		t.Errorf("0 of none: %x %v", way, e)
	}
}

func TestLeads(t *testing.T) {
	id, x, y, z := name(0), name(1), name(2), name(3)
	for _, c := range []struct {
		at   int
		way  []api.ID
		want api.ID
	}{
		{0, nil, id},
		{5, nil, id},
		{-5, []api.ID{}, id},
		{0, []api.ID{x}, both(id, x)},
		{1, []api.ID{x}, both(x, id)},
		{0, []api.ID{x, y}, both(both(id, x), y)},
		{1, []api.ID{x, y}, both(both(x, id), y)},
		{2, []api.ID{x, y}, both(y, both(id, x))},
		{3, []api.ID{x, y}, both(y, both(x, id))},
		{5, []api.ID{x, y, z}, both(z, both(both(x, id), y))},
		{4, []api.ID{x, y}, both(both(id, x), y)}, // higher than the way
		{math.MaxInt, []api.ID{x, y}, both(y, both(x, id))},
		{-1, []api.ID{x, y, z}, both(z, both(y, both(x, id)))}, // half of -1 is -1, rounded down
		{-2, []api.ID{x, y, z}, both(z, both(y, both(id, x)))},
		{-3, []api.ID{x, y, z}, both(z, both(both(x, id), y))}, // half of -3 is -2
		{-4, []api.ID{x, y, z}, both(z, both(both(id, x), y))},
		{-5, []api.ID{x, y, z}, both(both(y, both(x, id)), z)}, // -5, -3, -2
		{math.MinInt, []api.ID{x, y}, both(both(id, x), y)},
	} {
		if got := Leads(id, c.at, c.way...); got != c.want {
			t.Errorf("Leads from %d by %d: %x, want %x", c.at, len(c.way), got, c.want)
		}
	}
}

// More sums than an int has bits: at the end the place is 0, or -1.
func TestLeadsFar(t *testing.T) {
	way := names(130)
	for _, at := range []int{0, 1, math.MaxInt, -1, math.MinInt} {
		want := name(0)
		for i, x := range way {
			if at>>min(i, 63)&1 == 0 {
				want = both(want, x)
			} else {
				want = both(x, want)
			}
		}
		if got := Leads(name(0), at, way...); got != want {
			t.Errorf("from %d: %x, want %x", at, got, want)
		}
	}
}

// P2: lists that are handed in aren't changed, their spare room neither, and the same ones get the same answers.
func TestListsStayAsTheyAre(t *testing.T) {
	for n := range 10 {
		room := names(24)
		before := slices.Clone(room)
		list := room[:n]
		root, same := Root(list...)
		for at := -1; at <= n; at++ {
			way, e := Way(at, list...)
			end := Leads(name(30), at, list...)
			if again, f := Way(at, list...); f != e || !slices.Equal(again, way) || Leads(name(30), at, list...) != end {
				t.Errorf("%d of %d: another answer", at, n)
			}
		}
		if again, told := Root(list...); again != root || told != same {
			t.Errorf("of %d: another root", n)
		}
		if !slices.Equal(room, before) {
			t.Errorf("the list of %d has changed", n)
		}
	}
}

// P2: a way is new memory, its spare room too.
func TestWayIsNew(t *testing.T) {
	for n := 1; n <= 9; n++ {
		list := names(n)
		for at := range n {
			first, _ := Way(at, list...)
			second, _ := Way(at, list...)
			kept := slices.Clone(second)
			fill(first[:cap(first)])
			if !slices.Equal(list, names(n)) || !slices.Equal(second, kept) {
				t.Fatalf("%d of %d: a way shares memory", at, n)
			}
			fill(list)
			if !slices.Equal(second, kept) {
				t.Fatalf("%d of %d: a way shares memory with its list", at, n)
			}
			list = names(n)
		}
	}
}

func fill(list []api.ID) {
	for i := range list {
		list[i] = api.ID(bytes.Repeat([]byte{0xee}, 32))
	}
}
