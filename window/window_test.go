package window

import (
	"math"
	"slices"
	"testing"

	"tallystick/api"
)

// numbers are of all kinds.
var numbers = []int{math.MinInt, math.MinInt + 1, -1 << 32, -17, -1, 0, 1, 2, 16, 1 << 14, 1 << 32, math.MaxInt - 1, math.MaxInt}

// asks lets one be asked for blocks at a tick.
func asks(t *testing.T, w *Table, peer, now int, blocks ...int) {
	t.Helper()
	for _, i := range blocks {
		told(t, w, i, peer, now, api.OK)
	}
}

// told holds what Ask answers against what it should.
func told(t *testing.T, w *Table, i, peer, now int, want api.Errno) {
	t.Helper()
	if e := w.Ask(i, peer, now); e != want {
		t.Errorf("Ask of %d for %d at %d: %v, want %v", peer, i, now, e, want)
	}
}

// asked holds for which blocks one is asked, of those from -50 up to 199, against what should be.
func asked(t *testing.T, w *Table, peer int, want ...int) {
	t.Helper()
	var got []int
	for i := -50; i < 200; i++ {
		if who, ok := w.Asked(i); ok && who == peer {
			got = append(got, i)
		}
	}
	if !slices.Equal(got, want) || w.Count(peer) != len(want) {
		t.Errorf("%d is asked for %d, Count %d; want %d", peer, got, w.Count(peer), want)
	}
}

func nobody(t *testing.T, w *Table, blocks ...int) {
	t.Helper()
	for _, i := range blocks {
		if who, ok := w.Asked(i); who != 0 || ok {
			t.Errorf("Asked of %d: %d, %v; want nobody", i, who, ok)
		}
	}
}

func long(t *testing.T, w *Table, want int) {
	t.Helper()
	if w.Len() != want {
		t.Errorf("Len %d, want %d", w.Len(), want)
	}
}

func limit(t *testing.T, w *Table, want int) {
	t.Helper()
	if w.Limit() != want {
		t.Errorf("Limit %d, want %d", w.Limit(), want)
	}
}

func late(t *testing.T, w *Table, now, want int) {
	t.Helper()
	if peer, ok := w.Late(now); peer != want || !ok {
		t.Errorf("Late at %d: %d, %v; want %d", now, peer, ok, want)
	}
}

func notLate(t *testing.T, w *Table, ticks ...int) {
	t.Helper()
	for _, now := range ticks {
		if peer, ok := w.Late(now); peer != 0 || ok {
			t.Errorf("Late at %d: %d, %v; want nobody", now, peer, ok)
		}
	}
}

// row is so many numbers from one on.
func row(from, many int) []int {
	var list []int
	for i := range many {
		list = append(list, from+i)
	}
	return list
}

func TestLimits(t *testing.T) {
	if Window != 1024 || MaxFlight != 16 || Least != 20 || Most != 160 {
		t.Errorf("Window, MaxFlight, Least, Most: %d, %d, %d, %d", Window, MaxFlight, Least, Most)
	}
}

// P18.1 and P18.2: the zero one has none.
func TestZero(t *testing.T) {
	for _, n := range numbers {
		var w Table
		nobody(t, &w, n)
		notLate(t, &w, n)
		w.Got(n)
		w.Free(n)
		if list := w.Drop(n); len(list) != 0 || w.Count(n) != 0 {
			t.Errorf("Drop of %d: %d, Count %d", n, list, w.Count(n))
		}
		long(t, &w, 0)
		limit(t, &w, 20)
	}
}

// P18.1: any block, any one, at any tick.
func TestAsk(t *testing.T) {
	for _, peer := range numbers {
		for _, now := range numbers {
			var w Table
			for n, i := range numbers {
				nobody(t, &w, i)
				told(t, &w, i, peer, now, api.OK)
				if who, ok := w.Asked(i); who != peer || !ok {
					t.Errorf("Asked of %d: %d, %v; want %d", i, who, ok, peer)
				}
				if w.Len() != n+1 || w.Count(peer) != n+1 || w.Count(peer/2+7) != 0 {
					t.Errorf("%d asks: Len %d, Count %d", n+1, w.Len(), w.Count(peer))
				}
			}
			limit(t, &w, 20)
		}
	}
}

// P18.1: somebody is asked for it, whoever that is; nothing is changed by it.
func TestAskTwice(t *testing.T) {
	var w Table
	asks(t, &w, 3, 100, 7, 8)
	asks(t, &w, 4, 100, row(20, 16)...)
	for _, peer := range append(slices.Clone(numbers), 3, 4) {
		for _, now := range []int{100, 110, 500, -500} {
			told(t, &w, 7, peer, now, api.ErrTwice) // ahead of ErrFull, of 4
			told(t, &w, 20, peer, now, api.ErrTwice)
		}
	}
	asked(t, &w, 3, 7, 8)
	asked(t, &w, 4, row(20, 16)...)
	long(t, &w, 18)
	notLate(t, &w, 119)
	late(t, &w, 120, 3) // since 100, as before
}

// P18.1: one is asked for 16 at most; nothing is changed by one more.
func TestFull(t *testing.T) {
	for _, peer := range numbers {
		var w Table
		for n := range 16 {
			asked(t, &w, peer, row(1, n)...)
			told(t, &w, 1+n, peer, 100, api.OK)
		}
		for _, i := range []int{17, 0, -1, math.MaxInt} {
			told(t, &w, i, peer, 5, api.ErrFull)
			nobody(t, &w, i)
		}
		asked(t, &w, peer, row(1, 16)...)
		long(t, &w, 16)
		notLate(t, &w, 25, 119)
		other := peer/2 + 7
		asks(t, &w, other, 100, row(17, 16)...)
		told(t, &w, 33, other, 100, api.ErrFull)
		long(t, &w, 32)
		w.Free(5)
		told(t, &w, 33, other, 100, api.ErrFull)
		told(t, &w, 5, peer, 100, api.OK)
		told(t, &w, 34, peer, 100, api.ErrFull)
		w.Got(6)
		told(t, &w, 6, other, 100, api.ErrFull)
		told(t, &w, 34, peer, 100, api.OK)
		told(t, &w, 6, peer, 100, api.ErrFull)
		w.Drop(other)
		told(t, &w, 35, peer, 100, api.ErrFull)
		asks(t, &w, other, 100, row(35, 16)...)
		long(t, &w, 32)
	}
}

// P18.1: of as many as there are.
func TestManyAreAsked(t *testing.T) {
	var w Table
	for peer := range 100 {
		asks(t, &w, peer, peer, row(peer*16, 16)...)
		told(t, &w, 5000, peer, 0, api.ErrFull)
	}
	long(t, &w, 1600)
	for peer := range 100 {
		if list := w.Drop(peer); !slices.Equal(list, row(peer*16, 16)) {
			t.Errorf("Drop of %d: %d", peer, list)
		}
		long(t, &w, 1600-16-peer*16)
	}
}

// P18.1: the numbers rise, in whatever order they were asked for, and the others stay.
func TestDrop(t *testing.T) {
	for range 20 { // a map is gone through in another order each time
		var w Table
		mine := []int{9, -3, 40, 0, 7, 12, math.MaxInt, 11, math.MinInt, 1, -1, 10, 2}
		asks(t, &w, 3, 100, mine...)
		asks(t, &w, 4, 100, 5, 6, -2)
		asks(t, &w, -3, 100, 3)
		asks(t, &w, 0, 100, 4)
		for _, peer := range []int{1, 2, 5, -4, math.MinInt, math.MaxInt} {
			if list := w.Drop(peer); len(list) != 0 {
				t.Errorf("Drop of %d: %d", peer, list)
			}
		}
		long(t, &w, 18)
		if list := w.Drop(3); !slices.Equal(list, []int{math.MinInt, -3, -1, 0, 1, 2, 7, 9, 10, 11, 12, 40, math.MaxInt}) {
			t.Errorf("Drop: %d", list)
		}
		nobody(t, &w, mine...)
		asked(t, &w, 3)
		asked(t, &w, 4, -2, 5, 6)
		asked(t, &w, -3, 3)
		asked(t, &w, 0, 4)
		long(t, &w, 5)
		if list := w.Drop(3); len(list) != 0 {
			t.Errorf("Drop once more: %d", list)
		}
		if list := w.Drop(0); !slices.Equal(list, []int{4}) {
			t.Errorf("Drop of 0: %d", list)
		}
		asks(t, &w, 4, 100, mine...)
		notLate(t, &w, 119)
		long(t, &w, 17)
	}
}

// P18.1 and P18.2: by Free and Got nobody is asked for it any more, and it may be asked for anew, since then.
func TestFreeAndGot(t *testing.T) {
	for _, x := range []func(w *Table, i int){(*Table).Free, (*Table).Got} {
		var w Table
		asks(t, &w, 3, 100, 0, 7, -8)
		asks(t, &w, 4, 100, 9)
		for _, i := range []int{1, 8, -7, math.MinInt, math.MaxInt} {
			x(&w, i)
		}
		long(t, &w, 4)
		for _, i := range []int{0, 7} {
			x(&w, i)
			x(&w, i)
			nobody(t, &w, i)
		}
		asked(t, &w, 3, -8)
		asked(t, &w, 4, 9)
		long(t, &w, 2)
		asks(t, &w, 5, 110, 7)
		asked(t, &w, 5, 7)
		x(&w, 9)
		x(&w, -8)
		notLate(t, &w, 129)
		late(t, &w, 130, 5)
		long(t, &w, 1)
	}
}

// P18.2: at Limit ticks and more; the document's example, too.
func TestLate(t *testing.T) {
	var example Table
	asks(t, &example, 3, 5, 1)
	notLate(t, &example, 24)
	late(t, &example, 25, 3)
	for _, peer := range numbers {
		for _, since := range []int{0, 5, -5, -20, -1000, 1 << 40, math.MinInt, math.MaxInt - 1000} {
			var w Table
			asks(t, &w, peer, since, 1)
			for n, limits := range []int{20, 40, 80, 160, 160, 160} {
				limit(t, &w, limits)
				for _, passed := range []int{0, 1, limits / 2, limits - 1} {
					notLate(t, &w, since+passed)
				}
				limit(t, &w, limits)
				late(t, &w, since+limits+n%3, peer)
			}
			limit(t, &w, 160)
			late(t, &w, since+1000, peer)
			limit(t, &w, 160)
			if who, ok := w.Asked(1); who != peer || !ok || w.Len() != 1 { // it is only told
				t.Errorf("Asked: %d, %v, Len %d", who, ok, w.Len())
			}
		}
	}
}

// P18.2: as long as somebody is found, they aren't asked any more: the time that is doubled spares the others.
func TestLateOneByOne(t *testing.T) {
	for range 20 { // a map is gone through in another order each time
		var w Table
		asks(t, &w, 5, 0, 1)
		asks(t, &w, 3, 30, 2)
		asks(t, &w, 4, 50, 3)
		asks(t, &w, 2, 81, 4)
		late(t, &w, 101, 2) // 20 or more passed for all
		w.Drop(2)
		late(t, &w, 101, 3) // 40 or more for these
		w.Drop(3)
		late(t, &w, 101, 5) // 80 or more for 5 alone
		limit(t, &w, 160)
		w.Drop(5)
		notLate(t, &w, 101, 209)
		late(t, &w, 210, 4)
	}
}

// P18.2: the least one of those who are late, whatever the blocks' numbers are and whoever was asked first.
func TestLeast(t *testing.T) {
	for range 20 { // a map is gone through in another order each time
		var w Table
		asks(t, &w, 9, 0, 10, 4, 30)
		notLate(t, &w, 19)
		asks(t, &w, 6, 5, 7, 12)
		asks(t, &w, 8, 3, 3, 5)
		asks(t, &w, 1, 90, 1, 2)
		for _, x := range [][2]int{{20, 9}, {45, 6}, {85, 6}, {165, 6}, {162, 9}, {163, 8}, {250, 1}} {
			late(t, &w, x[0], x[1])
		}
		w = Table{}
		asks(t, &w, 0, 0, 5)
		asks(t, &w, 2, 0, 4)
		asks(t, &w, -2, 1, 6)
		late(t, &w, 20, 0)
		late(t, &w, 40, 0)
		late(t, &w, 81, -2)
		asks(t, &w, math.MaxInt, 500, 1)
		asks(t, &w, math.MinInt, 501, 2)
		late(t, &w, 661, math.MinInt)
		for _, peer := range []int{math.MinInt, -2, 0, 2} {
			late(t, &w, 661, peer)
			w.Drop(peer)
		}
		notLate(t, &w, 659)
		late(t, &w, 660, math.MaxInt)
	}
}

// P18.2: only the blocks that are late count, not the others that one is asked for.
func TestOneOfManyIsLate(t *testing.T) {
	var w Table
	asks(t, &w, 3, 10, 1)
	asks(t, &w, 3, 11, 2, 3)
	notLate(t, &w, 29)
	late(t, &w, 30, 3)
	w.Free(1)
	notLate(t, &w, 50)
	late(t, &w, 51, 3)
	w.Got(2)
	w.Got(3)
	limit(t, &w, 20)
	notLate(t, &w, 51, 1000)
}

// P18.2: halved by each that came, if somebody was asked for it, and by nothing else.
func TestGot(t *testing.T) {
	var w Table
	asks(t, &w, 3, 0, row(1, 16)...)
	w.Got(1)
	limit(t, &w, 20)
	for _, want := range []int{40, 80, 160, 160, 160} {
		late(t, &w, 1000, 3)
		limit(t, &w, want)
	}
	w.Got(1) // it came already
	w.Got(17)
	w.Got(-1)
	w.Free(2)
	w.Free(2)
	w.Got(2) // nobody is asked for it any more
	limit(t, &w, 160)
	for n, want := range []int{80, 40, 20, 20, 20} {
		w.Got(3 + n)
		limit(t, &w, want)
	}
	late(t, &w, 20, 3)
	limit(t, &w, 40)
	w.Got(8)
	limit(t, &w, 20)
	late(t, &w, 20, 3)
	late(t, &w, 40, 3)
	w.Got(9)
	limit(t, &w, 40)
	notLate(t, &w, 39)
	late(t, &w, 40, 3)
	w.Drop(3)
	limit(t, &w, 80)
	w.Got(10)
	limit(t, &w, 80)
	told(t, &w, 10, 3, 0, api.OK)
	told(t, &w, 10, 3, 0, api.ErrTwice)
	limit(t, &w, 80)
	w.Got(10)
	limit(t, &w, 40)
	notLate(t, &w, math.MaxInt)
	limit(t, &w, 40)
}

// P18.2: ticks may lie as far apart as it says, either way.
func TestTicksFarApart(t *testing.T) {
	for _, x := range []struct {
		since, now int
		late       bool
	}{
		{0, math.MaxInt, true}, {math.MinInt, -1, true}, {-1 << 62, 1<<62 - 1, true}, {math.MaxInt - 20, math.MaxInt, true}, {math.MinInt, math.MinInt + 20, true},
		{math.MaxInt, 0, false}, {-1, math.MinInt, false}, {1<<62 - 1, -1 << 62, false}, {math.MaxInt - 19, math.MaxInt, false}, {math.MinInt, math.MinInt + 19, false},
		{math.MaxInt, math.MaxInt, false}, {math.MinInt, math.MinInt, false}, {10, 9, false}, {10, -10, false}, {10, -11, false}, {1000, 0, false},
	} {
		var w Table
		asks(t, &w, 3, x.since, 1)
		if x.late {
			late(t, &w, x.now, 3)
			limit(t, &w, 40)
		} else {
			notLate(t, &w, x.now)
			limit(t, &w, 20)
		}
	}
}

// Two tables have nothing to do with each other.
func TestTwoTables(t *testing.T) {
	var one, two Table
	asks(t, &one, 3, 0, 1, 2)
	asks(t, &two, 4, 50, 1)
	late(t, &one, 60, 3)
	limit(t, &two, 20)
	one.Got(1)
	asked(t, &two, 4, 1)
	two.Drop(4)
	asked(t, &one, 3, 2)
}

// P1: whatever they are given, the calls end.
func TestAnyArguments(t *testing.T) {
	var w Table
	for _, a := range numbers {
		for _, b := range numbers {
			for _, now := range numbers {
				if e := w.Ask(a, b, now); e != api.OK && e != api.ErrTwice && e != api.ErrFull {
					t.Errorf("Ask: %v", e)
				}
				w.Late(now)
				if n := w.Limit(); n != 20 && n != 40 && n != 80 && n != 160 {
					t.Errorf("Limit %d", n)
				}
			}
			w.Free(b)
			w.Got(a)
		}
		w.Drop(a)
	}
}

// P2: what Drop answers is new.
func TestDropIsNew(t *testing.T) {
	var w Table
	asks(t, &w, 3, 0, 1, 2, 5)
	asks(t, &w, 4, 0, 3, 4, 6)
	one := w.Drop(3)
	two := w.Drop(4)
	for i := range one[:cap(one)] {
		one[:cap(one)][i] = 77
	}
	asks(t, &w, 3, 0, 1, 2, 5)
	if !slices.Equal(two, []int{3, 4, 6}) || !slices.Equal(w.Drop(3), []int{1, 2, 5}) {
		t.Error("answers share memory")
	}
}
