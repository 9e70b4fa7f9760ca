package window

import (
	"math"
	"slices"
	"testing"

	"tallystick/api"
	"tallystick/chain"
	"tallystick/sample"
)

// planted is a chain of the genesis and a header behind each of parents, in order; their bodies aren't there.
func planted(t *testing.T, parents ...int) *chain.Chain {
	t.Helper()
	c, e := chain.New(sample.Founded(0))
	if e != api.OK {
		t.Fatalf("New: %v", e)
	}
	plant(t, c, parents...)
	return c
}

// plant lays a header behind each of parents.
func plant(t *testing.T, c *chain.Chain, parents ...int) {
	t.Helper()
	for _, parent := range parents {
		mark := c.Len()
		b := sample.Grown(c.Get(parent).Header, mark, made(mark))
		if i, e := c.Add(b.Header, math.MaxInt64); i != mark || e != api.OK {
			t.Fatalf("Add behind %d: %d, %v", parent, i, e)
		}
	}
}

// made is the transaction of the i-th header's block.
func made(i int) api.Tx { return sample.Made(i, 50) }

// bring lets bodies of headers come.
func bring(t *testing.T, c *chain.Chain, list ...int) {
	t.Helper()
	for _, i := range list {
		b := api.Block{Header: c.Get(i).Header, Txs: []api.Tx{made(i)}}
		if k, e := c.Body(b); k != i || e != api.OK {
			t.Fatalf("Body of %d: %d, %v", i, k, e)
		}
	}
}

// follows asks whether the i-th is the last that is followed.
func follows(t *testing.T, c *chain.Chain, i int) {
	t.Helper()
	if c.Tip() != i {
		t.Fatalf("the last that is followed: %d, want %d", c.Tip(), i)
	}
}

// forked is a chain of ten: 0 1 2 3 4 in a row, 5 6 behind 2, 7 behind 5, 8 9 behind 0.
func forked(t *testing.T) *chain.Chain {
	t.Helper()
	return planted(t, 0, 1, 2, 3, 2, 5, 5, 0, 8)
}

// wants holds what is wanted of one who has all up to a header against what should be.
func wants(t *testing.T, w *Table, c *chain.Chain, peer, best int, want ...int) {
	t.Helper()
	if got := w.Want(c, peer, best); !slices.Equal(got, want) {
		t.Errorf("Want of %d, up to %d: %d, want %d", peer, best, got, want)
	}
}

// P18.3: the document's example.
func TestWant(t *testing.T) {
	c := planted(t, 0, 1)
	var w Table
	wants(t, &w, c, 3, 2, 1, 2)
	asks(t, &w, 3, 5, 1)
	wants(t, &w, c, 3, 2, 2)
	wants(t, &w, c, 4, 2, 2)
	notLate(t, &w, 24)
	late(t, &w, 25, 3)
	bring(t, c, 1)
	w.Got(1)
	wants(t, &w, c, 3, 2, 2)
	bring(t, c, 2)
	wants(t, &w, c, 3, 2)
}

// P18.3: of what isn't there, or has failed, none.
func TestWantOfNone(t *testing.T) {
	c := forked(t)
	var w Table
	for _, best := range []int{math.MinInt, -1 << 32, -2, -1, 10, 11, 1 << 14, 1 << 32, math.MaxInt} {
		wants(t, &w, c, 3, best)
	}
	wants(t, &w, c, 3, 9, 8, 9)
	wants(t, &w, c, 3, 0)
	c.Fail(5)
	for _, best := range []int{5, 6, 7} {
		wants(t, &w, c, 3, best)
	}
	wants(t, &w, c, 3, 2, 1, 2)
	wants(t, &w, c, 3, 4, 1, 2, 3, 4)
	c.Fail(4)
	wants(t, &w, c, 3, 4)
	wants(t, &w, c, 3, 3, 1, 2, 3)
	c.Fail(1)
	for best := 1; best < 8; best++ {
		wants(t, &w, c, 3, best)
	}
	wants(t, &w, c, 3, 9, 8, 9)
}

// P18.3: those on the way to it alone, above where it parts from the way that is followed, even if that has more work.
func TestWhereItParts(t *testing.T) {
	c := forked(t)
	var w Table
	wants(t, &w, c, 3, 7, 1, 2, 5, 7)
	wants(t, &w, c, 3, 6, 1, 2, 5, 6)
	bring(t, c, 1, 2, 3, 4)
	follows(t, c, 4)
	for best, want := range [][]int{{}, {}, {}, {}, {}, {5}, {5, 6}, {5, 7}, {8}, {8, 9}} {
		wants(t, &w, c, 3, best, want...)
	}
	plant(t, c, 7, 10, 4) // 10 11, and 12
	wants(t, &w, c, 3, 11, 5, 7, 10, 11)
	wants(t, &w, c, 3, 12, 12)
	bring(t, c, 5, 7)
	wants(t, &w, c, 3, 11, 10, 11)
	bring(t, c, 11, 10)
	follows(t, c, 11)
	wants(t, &w, c, 3, 6, 6)
	wants(t, &w, c, 3, 12, 12)
	wants(t, &w, c, 3, 4)
	wants(t, &w, c, 3, 9, 8, 9)
}

// P18.3: bodies that are there aren't wanted, whether their headers are ready or not.
func TestWhoseBodiesAreThere(t *testing.T) {
	c := planted(t, row(0, 12)...)
	bring(t, c, 1, 3, 4, 12)
	follows(t, c, 1)
	var w Table
	wants(t, &w, c, 3, 12, 2, 5, 6, 7, 8, 9, 10, 11)
	wants(t, &w, c, 3, 4, 2)
	wants(t, &w, c, 3, 1)
	bring(t, c, 7)
	wants(t, &w, c, 3, 12, 2, 5, 6, 8, 9, 10, 11)
	bring(t, c, 2)
	follows(t, c, 4)
	wants(t, &w, c, 3, 12, 5, 6, 8, 9, 10, 11)
}

// P18.3: none for which somebody is asked, whoever that is.
func TestForWhichNobodyIsAsked(t *testing.T) {
	c := planted(t, row(0, 10)...)
	var w Table
	asks(t, &w, 3, 0, 1, 4)
	asks(t, &w, 4, 0, 2, 10)
	asks(t, &w, 0, 0, 6)
	for _, peer := range append(slices.Clone(numbers), 3, 4) {
		wants(t, &w, c, peer, 10, 3, 5, 7, 8, 9)
		wants(t, &w, c, peer, 4, 3)
		wants(t, &w, c, peer, 2)
	}
	w.Free(6)
	w.Got(10)
	wants(t, &w, c, 3, 10, 3, 5, 6, 7, 8, 9, 10)
	w.Drop(3)
	wants(t, &w, c, 3, 10, 1, 3, 4, 5, 6, 7, 8, 9, 10)
}

// P18.3: at most as many as one is asked for fewer than 16, the lowest ones, in whatever way they are asked for.
func TestAsManyAsThereIsRoom(t *testing.T) {
	c := planted(t, row(0, 60)...)
	for _, peer := range numbers {
		for n := range 17 {
			var w Table
			asks(t, &w, peer, 0, row(5, n)...)
			want := slices.Concat(row(1, 4), row(5+n, 60))[:16-n]
			wants(t, &w, c, peer, 60, want...)
			wants(t, &w, c, peer/2+7, 60, slices.Concat(row(1, 4), row(5+n, 60))[:16]...)
			if n > 0 {
				wants(t, &w, c, peer, 3, row(1, min(3, 16-n))...)
			}
			asks(t, &w, peer, 0, want...)
			wants(t, &w, c, peer, 60)
		}
	}
	var w Table
	asks(t, &w, 3, 0, row(1000, 14)...) // they count, though they aren't on that way
	wants(t, &w, c, 3, 60, 1, 2)
	asks(t, &w, 4, 0, 1)
	wants(t, &w, c, 3, 60, 2, 3)
	asks(t, &w, 3, 0, -1, -2)
	wants(t, &w, c, 3, 60)
	w.Free(1000)
	wants(t, &w, c, 3, 60, 2)
	w.Got(1001)
	wants(t, &w, c, 3, 60, 2, 3)
	w.Drop(3)
	wants(t, &w, c, 3, 60, row(2, 16)...)
}

// fill lets others be asked for so many blocks from one on.
func fill(t *testing.T, w *Table, from, many int) {
	t.Helper()
	for n := range many {
		asks(t, w, 1000+n/16, 0, from+n)
	}
}

// P18.3: none that is more than 1024 above the last block that is followed.
func TestWindow(t *testing.T) {
	c := planted(t, row(0, 1040)...)
	var w Table
	fill(t, &w, 1, 1020)
	wants(t, &w, c, 3, 1040, 1021, 1022, 1023, 1024)
	for best, want := range map[int][]int{1020: nil, 1021: {1021}, 1023: {1021, 1022, 1023}, 1024: {1021, 1022, 1023, 1024}, 1025: {1021, 1022, 1023, 1024}, 1026: {1021, 1022, 1023, 1024}} {
		wants(t, &w, c, 3, best, want...)
	}
	asks(t, &w, 4, 0, 1021, 1022, 1023)
	wants(t, &w, c, 3, 1040, 1024)
	asks(t, &w, 4, 0, 1024)
	wants(t, &w, c, 3, 1040)
	bring(t, c, 2)
	wants(t, &w, c, 3, 1040) // 2 isn't followed yet
	bring(t, c, 1)
	follows(t, c, 2)
	wants(t, &w, c, 3, 1040, 1025, 1026)
	bring(t, c, 1025, 3)
	wants(t, &w, c, 3, 1040, 1026, 1027)
	w.Drop(4)
	wants(t, &w, c, 3, 1040, 1021, 1022, 1023, 1024, 1026, 1027)
}

// P18.3: it counts from the last block that is followed, not from where the ways part.
func TestWindowOfAnotherWay(t *testing.T) {
	c := planted(t, append(row(0, 20), 10)...) // 21, of the height 11, behind 10
	plant(t, c, row(21, 1050)...)
	bring(t, c, row(1, 20)...)
	follows(t, c, 20)
	var w Table
	wants(t, &w, c, 3, c.Len()-1, row(21, 16)...)
	fill(t, &w, 21, 1030) // up to the height 1040
	wants(t, &w, c, 3, c.Len()-1, 1051, 1052, 1053, 1054)
	if c.Get(1054).Height != 20+1024 {
		t.Errorf("the height of 1054: %d", c.Get(1054).Height)
	}
	wants(t, &w, c, 3, 1054, 1051, 1052, 1053, 1054)
	wants(t, &w, c, 3, 1052, 1051, 1052)
	bring(t, c, row(21, 11)...)
	follows(t, c, 31) // of the height 21
	wants(t, &w, c, 3, c.Len()-1, 1051, 1052, 1053, 1054, 1055)
}

// P18.3: one by one all blocks come, however they are asked for, in as many rounds as there must be.
func TestAllCome(t *testing.T) {
	c := planted(t, row(0, 200)...)
	var w Table
	rounds := 0
	for ; c.Tip() < 200 && rounds < 50; rounds++ {
		var all []int
		for peer := range 3 {
			list := w.Want(c, peer, 200)
			asks(t, &w, peer, rounds, list...)
			all = append(all, list...)
		}
		slices.Reverse(all)
		for _, i := range all {
			bring(t, c, i)
			w.Got(i)
		}
	}
	if rounds != 5 || w.Len() != 0 || c.Bodies() != 201 {
		t.Errorf("%d rounds, Len %d, Bodies %d", rounds, w.Len(), c.Bodies())
	}
}

// P1 and P2: whatever Want is given, it ends, changes nothing, and answers what is new.
func TestWantChangesNothing(t *testing.T) {
	c := forked(t)
	bring(t, c, 1)
	var w Table
	asks(t, &w, 3, 0, 2)
	for _, peer := range numbers {
		for _, best := range numbers {
			w.Want(c, peer, best)
		}
	}
	one, two := w.Want(c, 3, 7), w.Want(c, 3, 7)
	sample.Change(one, 77)
	if !slices.Equal(two, []int{5, 7}) {
		t.Error("answers share memory")
	}
	wants(t, &w, c, 3, 7, 5, 7)
	asked(t, &w, 3, 2)
	long(t, &w, 1)
	limit(t, &w, 20)
	follows(t, c, 1)
	if c.Len() != 10 || c.Bodies() != 2 || c.Best() != 4 {
		t.Errorf("Len %d, Bodies %d, Best %d", c.Len(), c.Bodies(), c.Best())
	}
}
