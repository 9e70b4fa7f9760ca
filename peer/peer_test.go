package peer

import (
	"math"
	"reflect"
	"slices"
	"testing"

	"tallystick/api"
	"tallystick/frame"
	"tallystick/msg"
	"tallystick/sample"
)

// own is the nonce of the node, theirs that of the other one.
const (
	own    = 1000
	theirs = 2000
)

var (
	version = msg.Msg{Kind: msg.Version, Nonce: theirs, Height: 7}
	verack  = msg.Msg{Kind: msg.Verack}
	none    []msg.Msg
)

func ping(nonce uint64) msg.Msg { return msg.Msg{Kind: msg.Ping, Nonce: nonce} }

func pong(nonce uint64) msg.Msg { return msg.Msg{Kind: msg.Pong, Nonce: nonce} }

// others is a message of each kind that is said on, none of them empty.
func others(d *sample.Dice) []msg.Msg {
	return []msg.Msg{
		{Kind: msg.GetHeaders, Names: d.IDs(3), Stop: d.ID()},
		{Kind: msg.Headers, Heads: d.Headers(2)},
		{Kind: msg.Inv, Names: d.IDs(2)},
		{Kind: msg.GetData, Names: d.IDs(2)},
		{Kind: msg.Block, Block: d.Block(2, 5)},
		{Kind: msg.NotFound, Names: d.IDs(1)},
	}
}

// laid is messages' bytes.
func laid(list ...msg.Msg) []byte {
	b, e := msg.All(list...)
	if e != api.OK {
		panic(e)
	}
	return b
}

// framed is bytes under a word.
func framed(word string, data ...byte) []byte {
	b, e := frame.Encode(frame.Frame{Word: word, Data: data})
	if e != api.OK {
		panic(e)
	}
	return b
}

// come is somebody who has said nothing yet.
func come(now int) *Peer {
	p, _ := New(own, 5, now)
	return p
}

// greeted is somebody who has greeted.
func greeted(t *testing.T, now int) *Peer {
	t.Helper()
	p := come(now)
	hears(t, "a greeting", p, laid(version, verack), none, []msg.Msg{verack})
	stands(t, "a greeting", p, 0, true, 7)
	return p
}

func same(a, b []msg.Msg) bool { return len(a) == len(b) && (len(a) == 0 || reflect.DeepEqual(a, b)) }

// hears holds what comes of bytes against what should.
func hears(t *testing.T, what string, p *Peer, b []byte, said, answers []msg.Msg) {
	t.Helper()
	gotSaid, gotAnswers := p.Hear(b)
	if !same(gotSaid, said) || !same(gotAnswers, answers) {
		t.Errorf("%s: said %v, answered %v; want %v, %v", what, gotSaid, gotAnswers, said, answers)
	}
}

// stands holds what is told of somebody against what should be.
func stands(t *testing.T, what string, p *Peer, score int, ready bool, height uint32) {
	t.Helper()
	if p.Score() != score || p.Bad() != (score == 100) || p.Ready() != ready || p.Height() != height {
		t.Errorf("%s: Score %d, Bad %v, Ready %v, Height %d; want %d, %v, %d", what, p.Score(), p.Bad(), p.Ready(), p.Height(), score, ready, height)
	}
}

// ticks holds what comes of a tick against what should.
func ticks(t *testing.T, p *Peer, now int, want bool, list ...msg.Msg) {
	t.Helper()
	if got, ok := p.Tick(now); !same(got, list) || ok != want {
		t.Errorf("Tick of %d: %v, %v; want %v, %v", now, got, ok, list, want)
	}
}

func TestLimits(t *testing.T) {
	if MaxScore != 100 || HelloWait != 60 || PingEvery != 120 || PingWait != 60 {
		t.Errorf("MaxScore, HelloWait, PingEvery, PingWait: %d, %d, %d, %d", MaxScore, HelloWait, PingEvery, PingWait)
	}
}

// P16.1
func TestNew(t *testing.T) {
	for _, nonce := range []uint64{0, 1, own, 1 << 63, math.MaxUint64} {
		for _, height := range []uint32{0, 1, 5, math.MaxUint32} {
			for _, now := range []int{0, 1, -1, 1000, math.MinInt, math.MaxInt} {
				p, first := New(nonce, height, now)
				if !same(first, []msg.Msg{{Kind: msg.Version, Nonce: nonce, Height: height}}) {
					t.Errorf("New of %d, %d: %v", nonce, height, first)
				}
				stands(t, "a new one", p, 0, false, 0)
				if p.Held() != 0 {
					t.Errorf("a new one: %d held", p.Held())
				}
			}
		}
	}
}

// P16.2
func TestBlame(t *testing.T) {
	p := come(0)
	for _, x := range []struct{ n, score int }{{0, 0}, {-1, 0}, {1, 1}, {math.MinInt, 1}, {20, 21}, {-20, 21}, {0, 21}, {78, 99}, {0, 99}, {-1, 99}, {1, 100}, {0, 100}, {1, 100}, {-1, 100}, {math.MinInt, 100}, {math.MaxInt, 100}} {
		p.Blame(x.n)
		stands(t, "blamed", p, x.score, false, 0)
	}
	for _, was := range []int{0, 1, 50, 99, 100} {
		for _, n := range []int{math.MaxInt, math.MaxInt - 1, 1 << 32, 101, 100} {
			p := come(0)
			p.Blame(was)
			stands(t, "blamed once", p, was, false, 0)
			p.Blame(n)
			stands(t, "blamed by much", p, 100, false, 0)
		}
	}
}

// P16.3: the document's example.
func TestGreeting(t *testing.T) {
	b := laid(version, verack)
	for cut := range len(b) + 1 {
		p := come(0)
		said, answers := p.Hear(b[:cut])
		more, others := p.Hear(b[cut:])
		if len(said)+len(more) != 0 || !same(append(answers, others...), []msg.Msg{verack}) {
			t.Errorf("in two pieces, %d bytes the first: %v, %v, %v, %v", cut, said, answers, more, others)
		}
		stands(t, "a greeting", p, 0, true, 7)
	}
	p := come(0)
	for i, x := range b {
		var answers []msg.Msg
		if i == len(laid(version))-1 {
			answers = []msg.Msg{verack}
		}
		hears(t, "one byte", p, []byte{x}, none, answers)
		height := uint32(0)
		if i >= len(laid(version))-1 {
			height = 7
		}
		stands(t, "one byte", p, 0, i == len(b)-1, height)
	}
}

// P16.3: only the first version counts, and only the first verack behind it.
func TestOrderOfGreeting(t *testing.T) {
	second := msg.Msg{Kind: msg.Version, Nonce: 3000, Height: 9}
	itself := msg.Msg{Kind: msg.Version, Nonce: own, Height: 9}
	for _, x := range []struct {
		list    []msg.Msg
		answers int
		score   int
		ready   bool
		height  uint32
	}{
		{nil, 0, 0, false, 0},
		{[]msg.Msg{version}, 1, 0, false, 7},
		{[]msg.Msg{verack}, 0, 10, false, 0},
		{[]msg.Msg{verack, verack}, 0, 20, false, 0},
		{[]msg.Msg{verack, version}, 1, 10, false, 7},
		{[]msg.Msg{verack, version, verack}, 1, 10, true, 7},
		{[]msg.Msg{version, version}, 1, 10, false, 7},
		{[]msg.Msg{version, second}, 1, 10, false, 7},
		{[]msg.Msg{second, version}, 1, 10, false, 9},
		{[]msg.Msg{version, second, verack}, 1, 10, true, 7},
		{[]msg.Msg{version, verack}, 1, 0, true, 7},
		{[]msg.Msg{version, verack, verack}, 1, 10, true, 7},
		{[]msg.Msg{version, verack, second}, 1, 10, true, 7},
		{[]msg.Msg{version, verack, verack, second, version}, 1, 30, true, 7},
		{[]msg.Msg{itself}, 0, 100, false, 0},
		{[]msg.Msg{itself, version, verack}, 0, 100, false, 0},
		{[]msg.Msg{verack, itself}, 0, 100, false, 0},
		{[]msg.Msg{version, itself}, 1, 10, false, 7},
		{[]msg.Msg{version, itself, verack, itself}, 1, 20, true, 7},
	} {
		var answers []msg.Msg
		for range x.answers {
			answers = append(answers, verack)
		}
		p := come(0)
		hears(t, "at once", p, laid(x.list...), none, answers)
		stands(t, "at once", p, x.score, x.ready, x.height)
		p = come(0)
		got := 0
		for _, m := range x.list {
			said, answers := p.Hear(laid(m))
			if len(said) > 0 {
				t.Errorf("said on: %v", said)
			}
			got += len(answers)
		}
		if got != x.answers {
			t.Errorf("%v: %d answers, want %d", x.list, got, x.answers)
		}
		stands(t, "one by one", p, x.score, x.ready, x.height)
	}
}

// P16.3: whatever the own nonce is.
func TestOwnNonce(t *testing.T) {
	for _, nonce := range []uint64{0, 1, 255, 1 << 32, 1 << 63, math.MaxUint64} {
		for _, other := range []uint64{0, 1, 255, 1 << 32, 1 << 63, math.MaxUint64} {
			p, _ := New(nonce, 3, 10)
			hello := msg.Msg{Kind: msg.Version, Nonce: other, Height: math.MaxUint32}
			if nonce == other {
				hears(t, "the own nonce", p, laid(hello), none, none)
				stands(t, "the own nonce", p, 100, false, 0)
			} else {
				hears(t, "another nonce", p, laid(hello), none, []msg.Msg{verack})
				stands(t, "another nonce", p, 0, false, math.MaxUint32)
			}
		}
	}
}

// P16.3: all that comes ahead of the greeting is blamed, and neither answered nor said on.
func TestAheadOfGreeting(t *testing.T) {
	d := sample.Dice(1)
	for _, m := range append(others(&d), ping(3), pong(0), pong(own)) {
		p := come(0)
		hears(t, "ahead of a version", p, laid(m), none, none)
		stands(t, "ahead of a version", p, 10, false, 0)
		hears(t, "a version", p, laid(version), none, []msg.Msg{verack})
		hears(t, "ahead of a verack", p, laid(m), none, none)
		stands(t, "ahead of a verack", p, 20, false, 7)
		hears(t, "a verack", p, laid(verack), none, none)
		stands(t, "a verack", p, 20, true, 7)
		p.Hear(laid(m))
		stands(t, "behind the greeting", p, 20, true, 7)
	}
	p := come(0)
	hears(t, "ten", p, laid(slices.Repeat([]msg.Msg{ping(3)}, 9)...), none, none)
	stands(t, "nine", p, 90, false, 0)
	hears(t, "one more, and a version", p, laid(ping(3), version), none, none)
	stands(t, "one more, and a version", p, 100, false, 0)
}

// P16.3: other kinds are passed over, whatever their data are.
func TestOtherKinds(t *testing.T) {
	for _, word := range []string{"a", "addr", "tx", "versions", "pin", "pinga", "abcdefghijkl"} {
		for _, data := range [][]byte{nil, {0}, make([]byte, 8), make([]byte, 16384)} {
			p := come(0)
			hears(t, "ahead of the greeting", p, framed(word, data...), none, none)
			stands(t, "ahead of the greeting", p, 0, false, 0)
			hears(t, "amid the greeting", p, slices.Concat(laid(version), framed(word, data...), laid(verack)), none, []msg.Msg{verack})
			hears(t, "behind it", p, slices.Concat(framed(word, data...), laid(ping(3)), framed(word, data...)), none, []msg.Msg{pong(3)})
			stands(t, "behind it", p, 0, true, 7)
		}
	}
}

// wrongs are frames of kinds that there are, whose data are wrong: each of layer 9's errors but ErrKind.
func wrongs() [][]byte {
	two := append([]byte{2}, make([]byte, 15)...)
	return [][]byte{
		framed("ping"), framed("ping", make([]byte, 7)...), framed("pong", make([]byte, 9)...),
		framed("version"), framed("version", two...), framed("version", make([]byte, 17)...), framed("verack", 0),
		framed("inv"), framed("inv", 65), framed("getdata", 1), framed("getdata", 253, 0, 0), framed("notfound", 255),
		framed("getheaders"), framed("getheaders", 33), framed("headers"), framed("headers", 33), framed("headers", 0, 0),
		framed("block"), framed("block", make([]byte, 82)...), framed("block", make([]byte, 8193)...),
	}
}

// P16.3
func TestWrongData(t *testing.T) {
	for _, b := range wrongs() {
		p := come(0)
		hears(t, "ahead of the greeting", p, b, none, none)
		stands(t, "ahead of the greeting", p, 20, false, 0)
		hears(t, "amid it", p, slices.Concat(laid(version), b, laid(verack)), none, []msg.Msg{verack})
		stands(t, "amid it", p, 40, true, 7)
		hears(t, "behind it", p, slices.Concat(laid(ping(1)), b, laid(ping(2))), none, []msg.Msg{pong(1), pong(2)})
		stands(t, "behind it", p, 60, true, 7)
		if p.Held() != 0 {
			t.Errorf("%d held", p.Held())
		}
	}
}

// P16.3: with the score MaxScore nothing more is looked at, in the same bytes or in others.
func TestBad(t *testing.T) {
	d := sample.Dice(2)
	inv := msg.Msg{Kind: msg.Inv, Names: d.IDs(1)}
	for _, b := range wrongs() {
		p := greeted(t, 0)
		row := slices.Concat(laid(inv, ping(1)), slices.Repeat(b, 4), laid(inv, ping(2)), b, laid(inv, ping(3)), b, laid(verack))
		hears(t, "five that are wrong", p, row, []msg.Msg{inv, inv}, []msg.Msg{pong(1), pong(2)})
		stands(t, "five that are wrong", p, 100, true, 7)
		hears(t, "behind them", p, laid(inv, ping(4)), none, none)
	}
	p := come(0)
	p.Blame(80)
	hears(t, "a version ahead", p, slices.Concat(laid(version, ping(1), ping(2), verack)), none, []msg.Msg{verack})
	stands(t, "a version ahead", p, 100, false, 7)
	p = come(0)
	p.Blame(100)
	hears(t, "all behind", p, laid(version, verack, inv), none, none)
	stands(t, "all behind", p, 100, false, 0)
	p = greeted(t, 0)
	p.Blame(99)
	hears(t, "not bad yet", p, laid(inv, ping(3)), []msg.Msg{inv}, []msg.Msg{pong(3)})
	p.Blame(1)
	hears(t, "bad", p, laid(inv, ping(3)), none, none)
	ticks(t, p, 120, true, ping(own+120))
	hears(t, "its pong", p, laid(pong(own+120)), none, none)
	ticks(t, p, 179, true)
	ticks(t, p, 180, false) // the pong was passed over
}

// P16.3: what is held is what the Feed holds, whoever it is.
func TestHeld(t *testing.T) {
	long := framed("abcd", make([]byte, 16384)...)
	for _, score := range []int{0, 100} {
		p := come(0)
		p.Blame(score)
		for n, x := range long {
			if p.Held() != n {
				t.Fatalf("%d held, want %d", p.Held(), n)
			}
			hears(t, "a byte", p, []byte{x}, none, none)
		}
		if p.Held() != 0 {
			t.Errorf("%d held behind the whole", p.Held())
		}
		p.Hear(slices.Concat(long, long[:16407]))
		if p.Held() != 16407 || p.Score() != score {
			t.Errorf("all but a byte: %d held, Score %d", p.Held(), p.Score())
		}
		p.Hear(nil)
		p.Hear(append(long[16407:], "YLA"...))
		if p.Held() != 3 {
			t.Errorf("%d held, want 3", p.Held())
		}
		p.Hear([]byte("X"))
		if p.Held() != 0 || p.Score() != 100 {
			t.Errorf("behind the Feed's error: %d held, Score %d", p.Held(), p.Score())
		}
	}
}

// P16.4: pings are answered, and all else is said on, each in order.
func TestBehindGreeting(t *testing.T) {
	d := sample.Dice(3)
	p := greeted(t, 0)
	var row, said, answers []msg.Msg
	for i, m := range append(others(&d), others(&d)...) {
		nonce := []uint64{0, 1, own, theirs, 1 << 63, math.MaxUint64}[i%6]
		hears(t, "a message", p, laid(m), []msg.Msg{m}, none)
		hears(t, "a ping", p, laid(ping(nonce)), none, []msg.Msg{pong(nonce)})
		hears(t, "a pong", p, laid(pong(nonce)), none, none)
		row = append(row, ping(nonce), m, m, pong(nonce))
		said, answers = append(said, m, m), append(answers, pong(nonce))
	}
	hears(t, "all at once", p, laid(row...), said, answers)
	stands(t, "all at once", p, 0, true, 7)
	p = come(0)
	hears(t, "with the greeting", p, laid(append([]msg.Msg{version, verack}, row...)...), said, append([]msg.Msg{verack}, answers...))
	for _, m := range []msg.Msg{{Kind: msg.Inv}, {Kind: msg.GetData}, {Kind: msg.NotFound}, {Kind: msg.Headers}, {Kind: msg.GetHeaders}, {Kind: msg.Block}} {
		hears(t, "one that is empty", p, laid(m), []msg.Msg{m}, none)
	}
	hears(t, "nothing", p, nil, none, none)
	stands(t, "in the end", p, 0, true, 7)
}

// broken are bytes by which the Feed has an error, with their last one.
func broken() [][]byte {
	sum := laid(ping(3))
	sum[31]++
	form, long := laid(ping(3))[:24], laid(ping(3))[:24]
	form[4], long[18] = 'P', 1
	return [][]byte{[]byte("YLAU"), []byte("\x00\x00\x00\x00"), sum, form, long}
}

// P16.4: that is blamed last, behind all that is whole.
func TestFeedError(t *testing.T) {
	d := sample.Dice(4)
	list := others(&d)
	for _, b := range broken() {
		p := come(0)
		hears(t, "not broken yet", p, b[:len(b)-1], none, none)
		stands(t, "not broken yet", p, 0, false, 0)
		hears(t, "broken", p, b[len(b)-1:], none, none)
		stands(t, "broken", p, 100, false, 0)
		hears(t, "behind that", p, laid(version, verack), none, none)
		stands(t, "behind that", p, 100, false, 0)

		p = come(0)
		row := slices.Concat(laid(version, verack, ping(1)), laid(list...), laid(ping(2)), b, laid(ping(3)), laid(list...))
		hears(t, "behind what is whole", p, row, list, []msg.Msg{verack, pong(1), pong(2)})
		stands(t, "behind what is whole", p, 100, true, 7)
	}
}

// P16.5: whoever hasn't greeted is late at 60 ticks, and no ping is said.
func TestHelloWait(t *testing.T) {
	for _, from := range []int{0, 7, -1, -60, -1000, 1 << 40, math.MinInt, math.MaxInt - 1000} {
		for _, heard := range [][]byte{nil, laid(version), laid(verack), laid(verack, version), laid(ping(3)), laid(pong(own))} {
			p := come(from)
			p.Hear(heard)
			for _, passed := range []int{0, 0, 1, 30, 58, 59, 59} {
				ticks(t, p, from+passed, true)
			}
			for _, passed := range []int{60, 60, 61, 119, 120, 121, 500} {
				ticks(t, p, from+passed, false)
			}
		}
	}
	p := come(5)
	ticks(t, p, 500, false)
	p.Hear(laid(version, verack))
	ticks(t, p, 500, true, ping(own+500))
}

// P16.5: a ping is said 120 ticks behind New, whenever they greeted, and then behind the last one, whenever it was answered.
func TestPingEvery(t *testing.T) {
	for _, from := range []int{0, 7, -1, -119, -120, -1000, 1 << 40, math.MinInt, math.MaxInt - 1000} {
		p := come(from)
		p.Hear(laid(version))
		ticks(t, p, from+59, true)
		p.Hear(laid(verack))
		for _, passed := range []int{59, 60, 118, 119, 119} {
			ticks(t, p, from+passed, true)
		}
		nonce := uint64(own) + uint64(from) + 120
		ticks(t, p, from+120, true, ping(nonce))
		ticks(t, p, from+120, true)
		ticks(t, p, from+170, true)
		p.Hear(laid(pong(nonce)))
		for _, passed := range []int{170, 180, 181, 239, 239} {
			ticks(t, p, from+passed, true)
		}
		ticks(t, p, from+300, true, ping(nonce+180)) // later than it could have been
		p.Hear(laid(pong(nonce + 180)))
		ticks(t, p, from+419, true)
		ticks(t, p, from+420, true, ping(nonce+300))
		if p.Score() != 0 {
			t.Errorf("Score %d", p.Score())
		}
	}
}

// P16.5: a ping that isn't answered is late at 60 ticks, and no other one is said.
func TestPingWait(t *testing.T) {
	for _, from := range []int{0, -150, math.MinInt, math.MaxInt - 1000} {
		p := greeted(t, from)
		nonce := uint64(own) + uint64(from) + 130
		ticks(t, p, from+130, true, ping(nonce))
		for _, passed := range []int{130, 131, 188, 189, 189} {
			ticks(t, p, from+passed, true)
		}
		for _, passed := range []int{190, 190, 191, 249, 250, 251, 400} {
			ticks(t, p, from+passed, false)
		}
		p.Hear(laid(pong(nonce)))
		ticks(t, p, from+400, true, ping(nonce+270))
	}
}

// P16.4 and P16.5: only a pong with its nonce ends a ping's waiting.
func TestPongs(t *testing.T) {
	p := greeted(t, 0)
	hears(t, "pongs of none", p, laid(pong(0), pong(own), pong(own+120)), none, none)
	ticks(t, p, 120, true, ping(own+120))
	hears(t, "others", p, laid(pong(0), pong(own), pong(own+119), pong(own+121), pong(120), pong(theirs), pong(own+120+1<<32), ping(own+120)), none, []msg.Msg{pong(own + 120)})
	ticks(t, p, 179, true)
	ticks(t, p, 180, false)
	hears(t, "its own, twice", p, laid(pong(own+120), pong(own+120)), none, none)
	ticks(t, p, 239, true)
	ticks(t, p, 240, true, ping(own+240))
	hears(t, "that of the ping ahead", p, laid(pong(own+120)), none, none)
	ticks(t, p, 299, true)
	ticks(t, p, 300, false)
	hears(t, "its own in two pieces", p, laid(pong(own + 240))[:31], none, none)
	ticks(t, p, 300, false)
	hears(t, "its own in two pieces", p, laid(pong(own + 240))[31:], none, none)
	ticks(t, p, 300, true)
	stands(t, "in the end", p, 0, true, 7)
}

// P16.5: modulo 2^64.
func TestNonceOfPing(t *testing.T) {
	for _, x := range []struct {
		nonce uint64
		now   int
		want  uint64
	}{{0, 0, 0}, {5, 7, 12}, {math.MaxUint64, 1, 0}, {math.MaxUint64, 1000, 999}, {5, -7, math.MaxUint64 - 1}, {1 << 63, math.MaxInt, math.MaxUint64}, {1 << 63, math.MinInt + 120, 120}} {
		p, _ := New(x.nonce, 0, x.now-120)
		p.Hear(laid(msg.Msg{Kind: msg.Version, Nonce: x.nonce + 1}, verack))
		ticks(t, p, x.now, true, ping(x.want))
		p.Hear(laid(pong(x.want)))
		ticks(t, p, x.now, true)
	}
}

// P16.5: two ticks may lie as far apart as numbers can.
func TestTicksFarApart(t *testing.T) {
	for _, x := range []struct{ from, now int }{{math.MinInt, math.MaxInt}, {math.MinInt, 0}, {math.MinInt, -1}, {0, math.MaxInt}, {-1, math.MaxInt}, {-100, math.MaxInt}, {-1 << 62, 1 << 62}} {
		p := come(x.from)
		ticks(t, p, x.from, true)
		ticks(t, p, x.now, false)
		p = greeted(t, x.from)
		ticks(t, p, x.from, true)
		ticks(t, p, x.now, true, ping(own+uint64(x.now)))
		p = greeted(t, x.from)
		ticks(t, p, x.from+120, true, ping(own+uint64(x.from)+120))
		ticks(t, p, x.now, false)
		p.Hear(laid(pong(own + uint64(x.from) + 120)))
		ticks(t, p, x.now, true, ping(own+uint64(x.now)))
	}
}

// P1: ticks that fall do no harm.
func TestTicksThatFall(t *testing.T) {
	for _, p := range []*Peer{come(0), greeted(t, 0)} {
		for _, now := range []int{0, 120, 119, -1, math.MinInt, math.MaxInt, math.MinInt, 0} {
			if list, ok := p.Tick(now); len(list) > 0 && !ok {
				t.Errorf("Tick of %d: %v beside false", now, list)
			}
		}
	}
}

// P2: what is handed in isn't changed, nor its spare room, and not kept.
func TestArgumentsStay(t *testing.T) {
	d := sample.Dice(5)
	list := others(&d)
	row := append(laid(append([]msg.Msg{version, verack, ping(3)}, list...)...), d.Text(100)...)
	for cut := range len(row) - 100 {
		b := slices.Clone(row)
		p := come(0)
		said, _ := p.Hear(b[:cut])
		rest := slices.Clone(b[cut : len(b)-100])
		if !slices.Equal(b, row) {
			t.Fatal("what was handed in has changed")
		}
		sample.Change(b, 0xee)
		more, _ := p.Hear(rest)
		sample.Change(rest, 0xee)
		if !same(append(said, more...), list) || p.Score() != 0 {
			t.Fatalf("what was handed in is kept: %d bytes of it", cut)
		}
	}
}

// P2: what is answered is new.
func TestAnswersAreNew(t *testing.T) {
	d := sample.Dice(6)
	list := others(&d)
	first, one := New(own, 5, 0)
	second, two := New(own, 5, 0)
	sample.Change(one, msg.Msg{Kind: 77})
	if !same(two, []msg.Msg{{Kind: msg.Version, Nonce: own, Height: 5}}) {
		t.Error("two versions share something")
	}
	b := laid(append([]msg.Msg{version, verack, ping(3)}, list...)...)
	said, answers := first.Hear(b)
	others, pongs := second.Hear(b)
	again, _ := first.Hear(laid(list...))
	for _, m := range said {
		sample.Change(m.Names, api.ID{0xee})
		sample.Change(m.Heads, api.Header{Version: 0xee})
		for _, x := range m.Block.Txs {
			sample.ChangeTx(x)
		}
		sample.Change(m.Block.Txs, api.Tx{})
	}
	sample.Change(said, msg.Msg{Kind: 77})
	sample.Change(answers, msg.Msg{Kind: 77})
	if !same(others, list) || !same(again, list) || !same(pongs, []msg.Msg{verack, pong(3)}) {
		t.Error("two answers share something")
	}
	ping1, _ := first.Tick(120)
	ping2, _ := second.Tick(120)
	sample.Change(ping1, msg.Msg{Kind: 77})
	if !same(ping2, []msg.Msg{ping(own + 120)}) {
		t.Error("two pings share something")
	}
	first.Hear(laid(pong(own + 120)))
	ticks(t, first, 179, true)
	ticks(t, first, 180, true)
}
