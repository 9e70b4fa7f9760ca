package ban

import (
	"cmp"
	"math"
	"slices"
	"testing"

	"tallystick/sample"
)

// filled is a table in which the addresses from 0 on are banned, in that order, until these.
func filled(untils ...int) *Table {
	var t Table
	for addr, until := range untils {
		t.Ban(addr, until)
	}
	return &t
}

// kept holds an address against until when it should be banned.
func kept(t *testing.T, b *Table, addr, until int) {
	t.Helper()
	if got, ok := b.Until(addr); got != until || !ok {
		t.Errorf("Until of %d: %d, %v; want %d", addr, got, ok, until)
	}
	for _, now := range []int{math.MinInt, until - 1, until, until + 1, 0, math.MaxInt} {
		if got := b.Banned(addr, now); got != (now < until) {
			t.Errorf("%d, until %d, at %d: banned: %v", addr, until, now, got)
		}
	}
}

func notKept(t *testing.T, b *Table, addr int) {
	t.Helper()
	if got, ok := b.Until(addr); got != 0 || ok {
		t.Errorf("Until of %d: %d, %v; want none", addr, got, ok)
	}
	for _, now := range []int{math.MinInt, -1, 0, 1, math.MaxInt} {
		if b.Banned(addr, now) {
			t.Errorf("%d, which isn't kept, is banned at %d", addr, now)
		}
	}
}

func long(t *testing.T, b *Table, want int) {
	t.Helper()
	if b.Len() != want {
		t.Errorf("Len %d, want %d", b.Len(), want)
	}
}

// P17.1: the zero one has none.
func TestZero(t *testing.T) {
	var b Table
	long(t, &b, 0)
	for _, addr := range []int{0, 1, -1, math.MinInt, math.MaxInt} {
		notKept(t, &b, addr)
	}
	for _, now := range []int{0, math.MinInt, math.MaxInt} {
		b.Sweep(now)
		long(t, &b, 0)
	}
}

// P17.1: the document's example, and the edges.
func TestBanned(t *testing.T) {
	var b Table
	b.Ban(3, 10)
	if !b.Banned(3, 9) || b.Banned(3, 10) {
		t.Error("the document's example")
	}
	kept(t, &b, 3, 10)
	notKept(t, &b, 0)
	notKept(t, &b, 10)
	for i, until := range []int{0, 1, -1, 5, math.MinInt + 1, math.MinInt, math.MaxInt - 1, math.MaxInt} {
		for _, addr := range []int{0, -1, 77, math.MinInt, math.MaxInt} {
			var b Table
			b.Ban(addr, until)
			kept(t, &b, addr, until)
			notKept(t, &b, 8+i)
			long(t, &b, 1)
		}
	}
}

// P17.2: the later one of both counts.
func TestBanAgain(t *testing.T) {
	for _, x := range [][3]int{{5, 9, 9}, {9, 5, 9}, {5, 5, 5}, {-5, 0, 0}, {0, -5, 0}, {-5, -9, -5}, {math.MinInt, math.MaxInt, math.MaxInt}, {math.MaxInt, math.MinInt, math.MaxInt}} {
		b := filled(100, x[0], 200)
		b.Ban(1, x[1])
		kept(t, b, 1, x[2])
		kept(t, b, 0, 100)
		kept(t, b, 2, 200)
		long(t, b, 3)
	}
}

// row is so many numbers, each of them the same.
func row(many, n int) []int { return slices.Repeat([]int{n}, many) }

// P17.2: 32 are kept; of more the first of those that are banned the shortest goes.
func TestRoom(t *testing.T) {
	if Room != 32 {
		t.Errorf("Room: %d", Room)
	}
	rising, falling := row(32, 0), row(32, 0)
	for i := range 32 {
		rising[i], falling[i] = 100+i, 200-i
	}
	two := row(32, 50)
	two[7], two[20] = 40, 40
	for _, x := range []struct {
		untils []int
		until  int // of one more
		gone   int
	}{
		{rising, 500, 0}, {rising, 101, 0}, {rising, 100, 0}, {rising, 99, 32}, {rising, math.MinInt, 32},
		{falling, 500, 31}, {falling, 169, 31}, {falling, 168, 32},
		{row(32, 50), 51, 0}, {row(32, 50), 50, 0}, {row(32, 50), 49, 32}, {row(32, -50), -50, 0},
		{two, 60, 7}, {two, 40, 7}, {two, 39, 32},
		{row(32, math.MaxInt), math.MaxInt, 0}, {row(32, math.MinInt), math.MinInt, 0}, {row(32, math.MaxInt), math.MinInt, 32}, {row(32, math.MinInt), math.MaxInt, 0},
	} {
		b := filled(x.untils...)
		long(t, b, 32)
		for addr, until := range x.untils {
			kept(t, b, addr, until)
		}
		b.Ban(32, x.until)
		long(t, b, 32)
		for addr, until := range append(slices.Clone(x.untils), x.until) {
			if addr == x.gone {
				notKept(t, b, addr)
			} else {
				kept(t, b, addr, until)
			}
		}
	}
}

// P17.2: whoever is banned again keeps their place, and takes no room.
func TestPlaces(t *testing.T) {
	b := filled(row(32, 50)...)
	b.Ban(0, 60)
	b.Ban(1, 50)
	b.Ban(2, 40)
	long(t, b, 32)
	b.Ban(100, 60) // 1 is the first of those until 50
	notKept(t, b, 1)
	b.Ban(1, 55) // behind the others, though it was here; 2 goes
	notKept(t, b, 2)
	kept(t, b, 1, 55)
	for addr := 3; addr < 32; addr++ {
		b.Ban(addr, 60)
	}
	b.Ban(101, 60)
	notKept(t, b, 1)
	for _, gone := range []int{0, 3, 4, 5} { // all are banned until 60: the places tell
		kept(t, b, gone, 60)
		b.Ban(200+gone, 60)
		notKept(t, b, gone)
		long(t, b, 32)
	}
	kept(t, b, 100, 60)
	kept(t, b, 101, 60)
}

// P17.2: swept are those who aren't banned then.
func TestSweep(t *testing.T) {
	untils := []int{10, 12, 11, 10, 9, 12, 0, -5, math.MaxInt, math.MinInt}
	for _, now := range []int{math.MinInt, math.MinInt + 1, -6, -5, -4, 0, 1, 8, 9, 10, 11, 12, 13, math.MaxInt - 1, math.MaxInt} {
		b := filled(untils...)
		left := 0
		for range 2 {
			left = 0
			b.Sweep(now)
			for addr, until := range untils {
				if now < until {
					kept(t, b, addr, until)
					left++
				} else {
					notKept(t, b, addr)
				}
			}
			long(t, b, left)
		}
		b.Ban(50, -100) // there is room
		kept(t, b, 50, -100)
		long(t, b, left+1)
	}
}

// P17.2: those that are left keep their places, and who is swept comes behind the others, if they are banned again.
func TestPlacesBehindSweep(t *testing.T) {
	b := filled(append([]int{5, 60, 5}, row(29, 60)...)...)
	b.Sweep(5)
	long(t, b, 30)
	b.Ban(0, 60)
	b.Ban(2, 60)
	long(t, b, 32)
	for _, gone := range []int{1, 3, 4} {
		b.Ban(100+gone, 60)
		notKept(t, b, gone)
	}
	kept(t, b, 0, 60)
	kept(t, b, 2, 60)
}

// Two tables have nothing to do with each other.
func TestTwoTables(t *testing.T) {
	one, two := filled(10, 20), filled(30)
	one.Sweep(15)
	kept(t, two, 0, 30)
	kept(t, one, 1, 20)
	notKept(t, one, 0)
	notKept(t, two, 1)
}

// entry is when an address came, and until when it is banned.
type entry struct{ came, until int }

// plain is a table as the chapter tells of it.
type plain struct {
	all  map[int]entry
	came int
}

func (p *plain) ban(addr, until int) {
	if e, ok := p.all[addr]; ok {
		p.all[addr] = entry{e.came, max(e.until, until)}
		return
	}
	p.came++
	p.all[addr] = entry{p.came, until}
	if len(p.all) > 32 {
		var list []int
		for addr := range p.all {
			list = append(list, addr)
		}
		slices.SortFunc(list, func(a, b int) int {
			return cmp.Or(cmp.Compare(p.all[a].until, p.all[b].until), cmp.Compare(p.all[a].came, p.all[b].came))
		})
		delete(p.all, list[0])
	}
}

func (p *plain) sweep(now int) {
	for addr, e := range p.all {
		if e.until <= now {
			delete(p.all, addr)
		}
	}
}

// Any calls in any order are answered as the chapter says.
func TestAnyCalls(t *testing.T) {
	d := sample.Dice(1)
	full := 0
	for range 200 {
		var b Table
		p := plain{all: map[int]entry{}}
		for range 200 {
			if d.Below(80) == 0 {
				now := d.Below(60) - 20
				b.Sweep(now)
				p.sweep(now)
			} else {
				addr, until := d.Below(60)-10, d.Below(60)-10
				b.Ban(addr, until)
				p.ban(addr, until)
			}
			if b.Len() != len(p.all) || b.Len() > 32 {
				t.Fatalf("Len %d, want %d", b.Len(), len(p.all))
			}
			for addr := -11; addr <= 51; addr++ {
				until, ok := b.Until(addr)
				if e, is := p.all[addr]; until != e.until || ok != is {
					t.Fatalf("Until of %d: %d, %v; want %d, %v", addr, until, ok, e.until, is)
				}
				now := d.Below(80) - 20
				if got := b.Banned(addr, now); got != (ok && now < until) {
					t.Fatalf("%d, until %d, at %d: banned: %v", addr, until, now, got)
				}
			}
			if b.Len() == 32 {
				full++
			}
		}
	}
	if full < 1000 {
		t.Errorf("the table was full %d times", full)
	}
}
