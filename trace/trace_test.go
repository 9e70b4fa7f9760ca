package trace

import (
	"math"
	"testing"

	"tallystick/api"
	"tallystick/msg"
	"tallystick/sample"
)

// numbers are of all kinds.
var numbers = []int{math.MinInt, -1 << 32, -17, -1, 0, 1, 2, 16, 1 << 14, 1 << 32, math.MaxInt}

var (
	version = msg.Msg{Kind: msg.Version, Nonce: 9, Height: 3}
	verack  = msg.Msg{Kind: msg.Verack}
)

func getData(names ...api.ID) msg.Msg { return msg.Msg{Kind: msg.GetData, Names: names} }

func notFound(names ...api.ID) msg.Msg { return msg.Msg{Kind: msg.NotFound, Names: names} }

// names are so many unlike ones, from the one with a number on.
func names(from, many int) []api.ID {
	var list []api.ID
	for i := range many {
		list = append(list, api.ID{byte(from + i), byte((from + i) >> 8), 1})
	}
	return list
}

// greeted is a book of peers with whom all is said.
func greeted(t *testing.T, ids ...int) *Book {
	t.Helper()
	b := &Book{}
	for _, id := range ids {
		came(t, b, id, api.OK)
		said(t, "a version", b, id, version, api.OK)
		b.Heard(id, version, api.ID{})
		said(t, "a verack", b, id, verack, api.OK)
		b.Heard(id, verack, api.ID{})
	}
	return b
}

func came(t *testing.T, b *Book, id int, want api.Errno) {
	t.Helper()
	if got := b.Came(id); got != want {
		t.Fatalf("Came(%d): %v, want %v", id, got, want)
	}
}

func said(t *testing.T, what string, b *Book, id int, m msg.Msg, want api.Errno) {
	t.Helper()
	if got := b.Said(id, m); got != want {
		t.Fatalf("%s: Said to %d: %v, want %v", what, id, got, want)
	}
}

// asked holds for how many names a peer is asked against what should be.
func asked(t *testing.T, what string, b *Book, id, want int) {
	t.Helper()
	if got := b.Asked(id); got != want {
		t.Fatalf("%s: %d is asked for %d, want %d", what, id, got, want)
	}
}

// P21.1: whoever came is there, once, till they are gone.
func TestCame(t *testing.T) {
	var b Book
	for i, id := range numbers {
		came(t, &b, id, api.OK)
		came(t, &b, id, api.ErrTwice)
		asked(t, "who came", &b, id, 0)
		if b.Len() != i+1 {
			t.Errorf("Len of %d: %d", i+1, b.Len())
		}
	}
	for i, id := range numbers {
		b.Gone(id)
		b.Gone(id)
		if b.Len() != len(numbers)-i-1 {
			t.Errorf("Len behind %d: %d", i, b.Len())
		}
		said(t, "who is gone", &b, id, version, api.ErrMissing)
	}
}

// P21.1: the zero book has nobody.
func TestNobody(t *testing.T) {
	for _, id := range numbers {
		var b Book
		b.Gone(id)
		b.Heard(id, version, api.ID{})
		b.Heard(id, msg.Msg{Kind: msg.Block}, api.ID{})
		b.Heard(id, notFound(names(0, 3)...), api.ID{})
		asked(t, "nobody", &b, id, 0)
		for kind := -1; kind <= msg.Pong+1; kind++ {
			said(t, "nobody", &b, id, msg.Msg{Kind: kind}, api.ErrMissing)
		}
		if b.Len() != 0 {
			t.Errorf("Len %d", b.Len())
		}
	}
}

// P21.1: one who comes again is a new one.
func TestCameAgain(t *testing.T) {
	b := greeted(t, 5, 6)
	said(t, "blocks", b, 5, getData(names(0, 9)...), api.OK)
	said(t, "blocks", b, 6, getData(names(9, 3)...), api.OK)
	b.Gone(5)
	asked(t, "who is gone", b, 5, 0)
	asked(t, "the other one", b, 6, 3)
	b.Heard(5, version, api.ID{})
	came(t, b, 5, api.OK)
	asked(t, "who came again", b, 5, 0)
	said(t, "a verack, as no version was said", b, 5, verack, api.ErrState)
	said(t, "a version", b, 5, version, api.OK)
	said(t, "a verack, as none was heard", b, 5, verack, api.ErrState)
	b.Heard(5, version, api.ID{})
	said(t, "a verack", b, 5, verack, api.OK)
	said(t, "a ping, as no verack was heard", b, 5, msg.Msg{Kind: msg.Ping}, api.ErrState)
	said(t, "what who is gone was asked for", b, 6, getData(names(0, 9)...), api.OK)
	said(t, "what the other one is asked for", b, 6, getData(names(11, 1)...), api.ErrTwice)
}

// greeting is what was heard and said of it.
type greeting struct{ heardVersion, heardVerack, saidVersion, saidVerack bool }

// does lets one of four things happen: what Said answers, if it is asked.
func (g *greeting) does(what int) api.Errno {
	switch what {
	case 0:
		g.heardVersion = true
	case 1:
		if g.heardVersion {
			g.heardVerack = true
		}
	case 2:
		if g.saidVersion {
			return api.ErrTwice
		}
		g.saidVersion = true
	case 3:
		if g.saidVerack {
			return api.ErrTwice
		}
		if !g.saidVersion || !g.heardVersion {
			return api.ErrState
		}
		g.saidVerack = true
	}
	return api.OK
}

// P21.2, P21.3: the greeting, in all orders of six things.
func TestGreeting(t *testing.T) {
	ready := 0
	for order := range 1 << 12 {
		var b Book
		var g greeting
		came(t, &b, 1, api.OK)
		for i := range 6 {
			what := order >> (2 * i) & 3
			want := g.does(what)
			switch what {
			case 0:
				b.Heard(1, version, api.ID{})
			case 1:
				b.Heard(1, verack, api.ID{})
			case 2:
				said(t, "a version", &b, 1, version, want)
			case 3:
				said(t, "a verack", &b, 1, verack, want)
			}
			other := api.ErrState
			if g.heardVersion && g.heardVerack && g.saidVersion && g.saidVerack {
				other = api.OK
				ready++
			}
			said(t, "a ping", &b, 1, msg.Msg{Kind: msg.Ping}, other)
		}
	}
	if ready == 0 {
		t.Error("nobody was ready")
	}
}

// P21.2: a peer's version is heard of that one alone.
func TestHeardOfAnother(t *testing.T) {
	var b Book
	for id := range 3 {
		came(t, &b, id, api.OK)
		said(t, "a version", &b, id, version, api.OK)
	}
	b.Heard(1, version, api.ID{})
	said(t, "a verack", &b, 0, verack, api.ErrState)
	said(t, "a verack", &b, 2, verack, api.ErrState)
	said(t, "a verack", &b, 1, verack, api.OK)
}

// P21.3: all else may be said behind the greeting alone, whatever it is, and again.
func TestAllElse(t *testing.T) {
	b := greeted(t, 1)
	came(t, b, 2, api.OK)
	kinds := append([]int{3, 4, 5, 6, 7, 8, 9, 10, 11, 255}, numbers...)
	for _, kind := range kinds {
		m := msg.Msg{Kind: kind, Names: names(kind&255, 1)}
		if kind == msg.Version || kind == msg.Verack {
			continue
		}
		said(t, "ahead of the greeting", b, 2, m, api.ErrState)
		said(t, "to nobody", b, 3, m, api.ErrMissing)
		said(t, "behind it", b, 1, m, api.OK)
		if kind == msg.GetData {
			b.Heard(1, notFound(m.Names...), api.ID{})
		}
		said(t, "again", b, 1, m, api.OK)
	}
	said(t, "a version", b, 1, version, api.ErrTwice)
	said(t, "a verack", b, 1, verack, api.ErrTwice)
	said(t, "a getdata without names", b, 2, getData(), api.ErrState)
}

// P21.3: a getdata's errors, in their order, and that nothing has changed then.
func TestGetData(t *testing.T) {
	b := greeted(t, 1, 2)
	said(t, "no names", b, 1, getData(), api.ErrShort)
	list := names(0, 20)
	said(t, "a name twice", b, 1, getData(list[0], list[1], list[0]), api.ErrTwice)
	said(t, "a name twice, of too many", b, 1, getData(append(list[:17:17], list[16])...), api.ErrTwice)
	said(t, "too many", b, 1, getData(list[:17]...), api.ErrFull)
	asked(t, "with errors", b, 1, 0)
	said(t, "sixteen", b, 1, getData(list[:16]...), api.OK)
	asked(t, "sixteen", b, 1, 16)
	said(t, "one more", b, 1, getData(list[16]), api.ErrFull)
	said(t, "one of these", b, 1, getData(list[3]), api.ErrTwice)
	said(t, "a new one and one of these", b, 2, getData(list[17], list[3]), api.ErrTwice)
	asked(t, "the other one", b, 2, 0)
	said(t, "new ones", b, 2, getData(list[16:]...), api.OK)
	said(t, "no names", b, 1, getData(), api.ErrShort)
	said(t, "what the other one is asked for", b, 1, getData(list[19]), api.ErrTwice)
	asked(t, "the other one", b, 2, 4)
	asked(t, "the first one", b, 1, 16)
}

// P21.3: it would be asked for more than sixteen, with those for which it is already.
func TestMaxFlight(t *testing.T) {
	for first := 1; first <= 16; first++ {
		for more := 1; more <= 17; more++ {
			b := greeted(t, 1, 2)
			said(t, "the other one", b, 2, getData(names(100, 16)...), api.OK)
			said(t, "the first ones", b, 1, getData(names(0, first)...), api.OK)
			want := api.OK
			if first+more > 16 {
				want = api.ErrFull
			}
			said(t, "the next ones", b, 1, getData(names(first, more)...), want)
			if want == api.OK {
				asked(t, "both", b, 1, first+more)
			} else {
				asked(t, "the first ones alone", b, 1, first)
			}
		}
	}
}

// P21.2: behind a block, or a notfound, a peer isn't asked for these names any more.
func TestHeardBlocks(t *testing.T) {
	b := greeted(t, 0, 1)
	list := names(0, 8)
	said(t, "four", b, 0, getData(list[:4]...), api.OK)
	said(t, "four others", b, 1, getData(list[4:]...), api.OK)
	block := msg.Msg{Kind: msg.Block}
	b.Heard(1, block, list[0])
	b.Heard(1, notFound(list[:4]...), api.ID{})
	b.Heard(2, block, list[1])
	b.Heard(2, notFound(list...), api.ID{})
	asked(t, "of others", b, 0, 4)
	said(t, "of others", b, 1, getData(list[0]), api.ErrTwice)
	b.Heard(0, block, list[0])
	asked(t, "a block", b, 0, 3)
	said(t, "it, to the other one", b, 1, getData(list[0]), api.OK)
	b.Heard(0, block, list[0])
	asked(t, "a block for which the other one is asked", b, 1, 5)
	b.Heard(0, notFound(list[1], list[5], list[2], list[1]), list[3])
	asked(t, "a notfound", b, 0, 1)
	asked(t, "a notfound of another one", b, 1, 5)
	for kind := -1; kind <= msg.Pong+1; kind++ {
		if kind != msg.Block && kind != msg.NotFound {
			b.Heard(0, msg.Msg{Kind: kind, Names: list}, list[3])
		}
	}
	asked(t, "messages of other kinds", b, 0, 1)
	b.Heard(0, msg.Msg{Kind: msg.Block, Names: list}, list[7])
	asked(t, "names of a block", b, 0, 1)
	b.Heard(0, notFound(), list[3])
	asked(t, "a notfound without names", b, 0, 1)
	b.Heard(0, block, list[3])
	asked(t, "the last one", b, 0, 0)
}

// P2: names that were handed in are neither changed nor kept.
func TestNamesAreApart(t *testing.T) {
	b := greeted(t, 1)
	list := names(0, 5)
	said(t, "five", b, 1, getData(list...), api.OK)
	for i, name := range names(0, 5) {
		if list[i] != name {
			t.Fatal("changed")
		}
	}
	sample.Change(list, api.ID{7})
	said(t, "the same ones", b, 1, getData(names(4, 1)...), api.ErrTwice)
	said(t, "what was written over them", b, 1, getData(api.ID{7}), api.OK)
	list = names(0, 5)
	b.Heard(1, notFound(list...), api.ID{})
	for i, name := range names(0, 5) {
		if list[i] != name {
			t.Fatal("changed")
		}
	}
	asked(t, "what is left", b, 1, 1)
}

// Two books have nothing to do with each other.
func TestTwoBooks(t *testing.T) {
	a, b := greeted(t, 1), greeted(t, 1)
	said(t, "one", a, 1, getData(names(0, 5)...), api.OK)
	asked(t, "the other one", b, 1, 0)
	a.Gone(1)
	said(t, "the other one", b, 1, getData(names(0, 5)...), api.OK)
}
