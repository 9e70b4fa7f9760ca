package presync

import (
	"crypto/sha256"
	"math"
	"math/big"
	"slices"
	"testing"

	"tallystick/api"
	"tallystick/bits"
	"tallystick/head"
	"tallystick/index"
	"tallystick/num"
	"tallystick/sample"
)

// Bits of which each has a target a fourth of the one ahead of it: 2, 8 and 32 tries.
const (
	easy = sample.Easy
	hard = 0x201fffff
	most = 0x2007ffff
)

// rules want the work of so many blocks.
func rules(every, work int) api.Rules {
	r := sample.Rules(every)
	r.Work = work
	return r
}

// planted is a tree of the genesis and so many headers behind it, in a row.
func planted(t *testing.T, r api.Rules, many int) *index.Tree {
	t.Helper()
	tree, e := index.New(r)
	if e != api.OK {
		t.Fatalf("New: %v", e)
	}
	h := r.Genesis.Header
	for i := range many {
		h = turned(h, 0, tree.Next(i))[0]
		if at, e := tree.Add(h, math.MaxInt64); at != i+1 || e != api.OK {
			t.Fatalf("Add: %d, %v", at, e)
		}
	}
	return tree
}

// row is so many headers behind one; mark tells them from others.
func row(h api.Header, many, mark int) []api.Header {
	var list []api.Header
	for range many {
		h = sample.Behind(h, mark)
		list = append(list, h)
	}
	return list
}

// turned is headers behind one, with one's bits after the other's.
func turned(h api.Header, mark int, list ...uint32) []api.Header {
	var heads []api.Header
	for _, b := range list {
		h = sample.Mined(api.Header{Version: uint32(mark), Prev: head.ID(h), Time: h.Time + 1, Bits: b})
		heads = append(heads, h)
	}
	return heads
}

// begun is a Sync behind the genesis, by rules that want the work of so many blocks and whose bits never change; and its genesis.
func begun(t *testing.T, work int, salt api.ID) (*Sync, api.Header) {
	t.Helper()
	tree := planted(t, rules(0, work), 0)
	return New(tree, 0, salt), tree.Get(0).Header
}

// stands holds all that a Sync tells against what it should.
func stands(t *testing.T, s *Sync, phase, size int, last api.Header) {
	t.Helper()
	if s.Phase() != phase || s.Size() != size || s.Last() != head.ID(last) || s.Reason() != api.OK {
		t.Errorf("Phase %d, Size %d, Reason %v, Last right: %v; want %d, %d", s.Phase(), s.Size(), s.Reason(), s.Last() == head.ID(last), phase, size)
	}
}

// takes holds an answer against what it should be.
func takes(t *testing.T, s *Sync, more bool, list, want []api.Header) {
	t.Helper()
	if got := s.Take(more, list...); !slices.Equal(got, want) {
		t.Errorf("Take of %d: %d headers, want %d", len(list), len(got), len(want))
	}
}

// over holds that headers end it by an error, and that nothing comes of it any more.
func over(t *testing.T, s *Sync, more bool, e api.Errno, list ...api.Header) {
	t.Helper()
	takes(t, s, more, list, nil)
	for range 2 {
		if s.Phase() != Over || s.Reason() != e || s.Size() != 0 {
			t.Errorf("Phase %d, Reason %v, Size %d; want %d, %v, 0", s.Phase(), s.Reason(), s.Size(), Over, e)
		}
		takes(t, s, more, list, nil)
	}
}

// counted is a Sync to which headers were told once.
func counted(t *testing.T, tree *index.Tree, salt api.ID, list ...api.Header) *Sync {
	t.Helper()
	s := New(tree, 0, salt)
	takes(t, s, false, list, nil)
	if s.Phase() != Again {
		t.Fatalf("Phase %d, Reason %v; want %d", s.Phase(), s.Reason(), Again)
	}
	return s
}

func TestLimits(t *testing.T) {
	if Period != 4 || MaxBits != 256 || Behind != 8 {
		t.Errorf("Period, MaxBits, Behind: %d, %d, %d", Period, MaxBits, Behind)
	}
	if Count != 1 || Again != 2 || Done != 3 || Over != 4 {
		t.Errorf("the phases: %d, %d, %d, %d", Count, Again, Done, Over)
	}
}

// P15.1

func wide(n num.Num) *big.Int {
	id := n.ID()
	slices.Reverse(id[:])
	return new(big.Int).SetBytes(id[:])
}

func TestNeed(t *testing.T) {
	whole := new(big.Int).Lsh(big.NewInt(1), 256)
	highest := new(big.Int).Sub(whole, big.NewInt(1))
	for _, limit := range []uint32{easy, hard, 0x1d00ffff, 0x04000001, 0x03000100, 0x03000002, 0x03000001} {
		target, ok := bits.Target(limit)
		if !ok {
			t.Fatalf("%x has no target", limit)
		}
		tries := new(big.Int).Div(whole, new(big.Int).Add(wide(target), big.NewInt(1)))
		for _, work := range []int{0, 1, 2, 3, 4, 255, 256, 257, 999, 1000} {
			want := new(big.Int).Mul(tries, big.NewInt(int64(work)))
			if want.Cmp(whole) >= 0 {
				want = highest
			}
			r := rules(0, work)
			r.Limit, r.Genesis.Bits = limit, limit
			if got := Need(r); wide(got).Cmp(want) != 0 {
				t.Errorf("Need of %d at %x: %v, want %v", work, limit, wide(got), want)
			}
		}
	}
	if Need(rules(0, 4)) != num.Of(8) {
		t.Error("the work of four blocks")
	}
	r := rules(0, 2)
	r.Limit, r.Genesis.Bits = 0x03000001, 0x03000001 // 2^255 tries
	if Need(r) != num.Not(num.Num{}) {
		t.Error("2^256 doesn't fit")
	}
}

func TestBit(t *testing.T) {
	d := sample.Dice(1)
	odd := 0
	for range 500 {
		salt, id := d.ID(), d.ID()
		sum := sha256.Sum256(append(salt[:], id[:]...))
		want := sum[0]&1 != 0
		if Bit(salt, id) != want {
			t.Fatalf("Bit of %x and %x: not %v", salt, id, want)
		}
		if want {
			odd++
		}
	}
	if odd < 200 || odd > 300 {
		t.Errorf("%d of 500 are odd", odd)
	}
}

func TestNew(t *testing.T) {
	tree := planted(t, rules(0, 4), 3)
	for i := range 4 {
		stands(t, New(tree, i, api.ID{1}), Count, 0, tree.Get(i).Header)
	}
}

// P15.1: those are marked whose height, not whose place, is the salt's first byte modulo Period.
func TestMarked(t *testing.T) {
	tree := planted(t, rules(0, 1000), 7)
	for start := range 8 {
		list := row(tree.Get(start).Header, 12, 5)
		for _, first := range []byte{0, 1, 2, 3, 4, 5, 6, 7, 127, 128, 253, 254, 255} {
			s := New(tree, start, api.ID{first, first + 1})
			marked := 0
			for k, h := range list {
				if (start+1+k)%4 == int(first)%4 {
					marked++
				}
				takes(t, s, true, []api.Header{h}, nil)
				stands(t, s, Count, marked, h)
			}
		}
	}
}

// P15.2

// wrong is a header that would be right, were it not for the nonce.
func wrong(h api.Header) api.Header {
	for head.Proved(h, h.Bits) == api.OK {
		h.Nonce++
	}
	return h
}

// faults are headers that may not stand behind one, and by which errors.
func faults(h api.Header) map[api.Errno][]api.Header {
	right := sample.Behind(h, 1)
	with := func(b uint32) api.Header {
		f := right
		f.Bits = b
		return f
	}
	other := right
	other.Prev[31] ^= 1
	return map[api.Errno][]api.Header{
		api.ErrOrphan: {h, {}, sample.Behind(right, 1), sample.Mined(other), wrong(other), {Bits: 1}},
		api.ErrProof:  {wrong(right), wrong(with(hard)), wrong(with(0x2007ffff))}, // ahead of what May says of the bits
		api.ErrBits:   {with(0), with(0x20000000), with(0x20800000), with(0x207fffff + 1), with(0x2100ffff), with(0xffffffff), sample.Mined(with(hard)), sample.Mined(with(0x207ffffe))},
	}
}

func TestFaults(t *testing.T) {
	list := row(rules(0, 4).Genesis.Header, 3, 1)
	for known := range 3 {
		h := rules(0, 4).Genesis.Header
		if known > 0 {
			h = list[known-1]
		}
		for e, wrongs := range faults(h) {
			for _, f := range wrongs {
				s, _ := begun(t, 4, api.ID{})
				takes(t, s, true, list[:known], nil)
				over(t, s, true, e, f)

				s, _ = begun(t, 4, api.ID{})
				over(t, s, false, e, append(slices.Clone(list[:known]), f)...) // ahead of ErrShort

				s = counted(t, planted(t, rules(0, 4), 0), api.ID{}, list...)
				takes(t, s, true, list[:known], nil)
				over(t, s, true, e, f)
			}
		}
	}
}

// P15.2: bits easier than the Limit are told as ErrBits, whether work stands behind them or not; ahead of that it is asked for its Prev.
func TestEasierThanLimit(t *testing.T) {
	for _, every := range []int{0, 1, 2} {
		r := rules(every, 4)
		r.Limit, r.Genesis.Bits = hard, hard
		tree := planted(t, r, 0)
		right := turned(tree.Get(0).Header, 1, easy)[0]
		for _, h := range []api.Header{right, wrong(right)} {
			over(t, New(tree, 0, api.ID{}), true, api.ErrBits, h)
			h.Prev[0] ^= 1
			over(t, New(tree, 0, api.ID{}), true, api.ErrOrphan, h)
		}
	}
}

// P15.2: the first of each phase stands behind the start, wherever that is.
func TestStarts(t *testing.T) {
	tree := planted(t, rules(0, 8), 4)
	for start := range 5 {
		n := tree.Get(start)
		list := row(n.Header, 7-start, 1)
		s := New(tree, start, api.ID{})
		takes(t, s, true, list[:6-start], nil)
		if s.Phase() != Count {
			t.Errorf("behind %d: the work of seven blocks is enough for eight", start)
		}
		takes(t, s, false, list[6-start:], nil)
		if s.Phase() != Again || s.Last() != n.ID {
			t.Errorf("behind %d: the work of eight blocks isn't enough: phase %d", start, s.Phase())
		}
		takes(t, s, false, list, list)
		marked := 0
		if start < 4 { // then the one at the height 4 is behind it
			marked = 1
		}
		stands(t, s, Done, marked, list[len(list)-1])
		over(t, New(tree, start, api.ID{}), true, api.ErrOrphan, list[1:]...)
	}
}

// P15.2: the start's own work may be enough: then the first header is.
func TestEnoughAhead(t *testing.T) {
	for _, work := range []int{0, 1, 2, 3, 5, 6} {
		tree := planted(t, rules(0, work), 4)
		list := row(tree.Get(4).Header, 3, 1)
		s := New(tree, 4, api.ID{1})
		takes(t, s, true, nil, nil)
		stands(t, s, Count, 0, tree.Get(4).Header)
		takes(t, s, true, list, nil)
		stands(t, s, Again, 1, tree.Get(4).Header)
		takes(t, s, true, list, list[:1])
		stands(t, s, Done, 1, list[0])
	}
}

// P15.2: harder headers have more work.
func TestWork(t *testing.T) {
	for work, many := range map[int]int{2: 1, 5: 1, 6: 2, 21: 2, 22: 3, 37: 3, 38: 4} { // together 2, 10, 42, 74 and 106 tries
		r := rules(1, work)
		list := turned(r.Genesis.Header, 1, hard, most, most, most)
		s := New(planted(t, r, 0), 0, api.ID{})
		for k, h := range list[:many] {
			if s.Phase() != Count {
				t.Errorf("work %d: %d headers are enough", work, k)
			}
			s.Take(true, h)
		}
		if s.Phase() != Again {
			t.Errorf("work %d: %d headers aren't enough", work, many)
		}
	}
}

// P15.3

func TestMayNever(t *testing.T) {
	for _, height := range []int{math.MinInt, -4, -1, 0, 1, 2, 3, 4, 5, 1000, math.MaxInt} {
		for _, was := range []uint32{0, 1, easy, hard, math.MaxUint32} {
			for _, now := range []uint32{0, 1, easy, hard, math.MaxUint32} {
				if got := May(rules(0, 4), height, was, now); got != (was == now) {
					t.Errorf("bits that never change, at %d: %x behind %x: %v", height, now, was, got)
				}
			}
		}
	}
}

func TestMayAtHeights(t *testing.T) {
	for _, every := range []int{1, 2, 3, 7, 1000} {
		r := rules(every, 4)
		for _, height := range []int{-2000, -7, -6, -1, 0, 1, 2, 3, 4, 6, 7, 8, 14, 999, 1000, 1001, 2000, 6999, 7000} {
			changes := height/every*every == height
			if got := May(r, height, easy, hard); got != changes {
				t.Errorf("every %d, at %d: other bits: %v", every, height, got)
			}
			if !May(r, height, easy, easy) {
				t.Errorf("every %d, at %d: the same bits: false", every, height)
			}
			if got := May(r, height, 0, 0); got == changes { // they are the same, but have no target
				t.Errorf("every %d, at %d: bits without a target: %v", every, height, got)
			}
		}
	}
}

func TestMayEdges(t *testing.T) {
	for _, c := range []struct {
		spacing   int // for four blocks
		was       uint32
		low, high uint32 // the hardest and the easiest that may be
	}{
		{8, easy, 0x201fffff, easy},
		{8, hard, 0x2007ffff, 0x207ffffc},
		{8, 0x203fffff, 0x200fffff, easy},       // four times 3fffff is above the limit
		{8, 0x1f7fffff, 0x1f1fffff, 0x2001ffff}, // what four times it has beyond three bytes is lost
		{8, 0x1d00ffff, 0x1c3fffc0, 0x1d03fffc},
		{8, 0x03000004, 0x03000001, 0x03000010},
		{8, 0x01010000, 0x01010000, 0x0104ffff}, // a fourth of 1 is 0, which has no target; the last of these is 4, too
		{1, hard, 0x2007ffff, 0x207ffffc},
		{1000, hard, 0x2007ffff, 0x207ffffb}, // it is divided first
	} {
		r := rules(4, 4)
		r.Spacing = c.spacing
		for _, now := range []uint32{c.low, c.was, c.high} {
			if !May(r, 4, c.was, now) {
				t.Errorf("%x behind %x may not be", now, c.was)
			}
		}
		for _, now := range []uint32{c.low - 1, c.high + 1, 0, 0x207fffff + 1, math.MaxUint32} {
			if May(r, 4, c.was, now) {
				t.Errorf("%x behind %x may be", now, c.was)
			}
		}
	}
}

// P15.3: the fourth of how many seconds there should be is rounded down, and of fewer than four there is no hardest target.
func TestMayOfFewSeconds(t *testing.T) {
	for spacing, low := range map[int]uint32{1: 0x03000001, 2: 0x03000001, 3: 0x03000001, 4: 0x201fffff, 5: 0x20199999, 7: 0x20124924, 8: 0x201fffff, 11: 0x201745d1, 1 << 20: 0x201fffff} {
		r := rules(1, 4)
		r.Spacing = spacing
		if !May(r, 1, easy, low) || May(r, 1, easy, low-1) {
			t.Errorf("spacing %d: %x may be: %v, %x may be: %v", spacing, low, May(r, 1, easy, low), low-1, May(r, 1, easy, low-1))
		}
	}
}

// P15.3: targets are compared, not their short forms.
func TestMayInOtherForms(t *testing.T) {
	r := rules(4, 4)
	r.Spacing = 8
	if !May(r, 8, 0x1f7fffff, 0x20007fff) || May(r, 9, 0x1f7fff00, 0x20007fff) {
		t.Error("another short form of a target")
	}
	if !May(r, 8, 0x1f7fff00, 0x20007fff) || !May(r, 8, 0x20007fff, 0x1f7fff00) {
		t.Error("another short form of the same target")
	}
}

// P15.3, in the chapter's words, of any bits.
func TestMayOfAny(t *testing.T) {
	d := sample.Dice(4)
	raw := func() uint32 {
		return uint32(d.Below(0x22))<<24 | uint32(d.Next())&0xffffff>>d.Below(24)
	}
	seen := map[bool]int{}
	for range 30000 {
		r := rules(d.Below(5), 4)
		r.Spacing = 1 + d.Below(20)
		height, was := d.Below(20), raw()
		now := was + uint32(d.Below(1<<22)) - 1<<21
		if d.Below(4) == 0 {
			now = raw()
		}
		limit, _ := bits.Target(r.Limit)
		should := int64(r.Every * r.Spacing)
		want := was == now
		if r.Every != 0 && height%r.Every == 0 {
			high, _ := bits.Next(was, 4*should, should, limit)
			low, _ := bits.Next(was, 0, should, limit)
			target, ok := bits.Target(now)
			upper, bounded := bits.Target(high)
			lower, floor := bits.Target(low)
			want = ok && bounded && num.Cmp(target, upper) <= 0 && (!floor || num.Cmp(target, lower) >= 0)
		}
		seen[want]++
		if May(r, height, was, now) != want {
			t.Fatalf("every %d, spacing %d, at %d: %x behind %x: not %v", r.Every, r.Spacing, height, now, was, want)
		}
	}
	if seen[true] < 1000 || seen[false] < 1000 {
		t.Errorf("how many may be: %v", seen)
	}
}

// P15.3 and P15.2: bits change at their heights, counted from the genesis on.
func TestBitsChange(t *testing.T) {
	r := rules(3, 1000)
	tree := planted(t, r, 1)
	h := tree.Get(1).Header
	for e, runs := range map[api.Errno][][]uint32{
		api.OK:      {{easy, easy, easy, easy}, {easy, hard, hard, hard, most}, {easy, hard, hard, hard, easy - 255}},
		api.ErrBits: {{hard}, {easy, easy, hard}, {easy, hard, easy}, {easy, hard, most}, {easy, most}, {easy, hard, hard, hard, easy}},
	} {
		for _, run := range runs {
			s := New(tree, 1, api.ID{})
			list := turned(h, 1, run...)
			takes(t, s, true, list, nil)
			if s.Reason() != e {
				t.Errorf("%x: %v, want %v", run, s.Reason(), e)
			}
		}
	}
}

// P15.4 and P15.5

// The document's example.
func TestExample(t *testing.T) {
	s, g := begun(t, 4, api.ID{})
	list := row(g, 4, 1)
	takes(t, s, false, list, nil)
	stands(t, s, Again, 0, g)
	takes(t, s, false, list, list[:3])
	stands(t, s, Done, 0, list[2])
	takes(t, s, true, list[3:], nil)
	takes(t, s, false, nil, nil)
	stands(t, s, Done, 0, list[2])
}

// P15.4: what lies behind the header with which a phase ends is passed over, whatever it is.
func TestPassedOver(t *testing.T) {
	g := rules(0, 4).Genesis.Header
	list := row(g, 4, 1)
	for _, behind := range [][]api.Header{nil, list[3:], {{}}, list, {list[0], {}}, {wrong(list[3])}} {
		for _, more := range []bool{true, false} {
			told := append(slices.Clone(list[:3]), behind...)
			s, _ := begun(t, 4, api.ID{1})
			takes(t, s, more, told, nil)
			stands(t, s, Again, 1, g)
			takes(t, s, more, told, list[:3])
			stands(t, s, Done, 1, list[2])
		}
	}
}

// P15.4: those that come one by one are the same as those that come together.
func TestOneByOne(t *testing.T) {
	s, g := begun(t, 31, api.ID{2})
	list := row(g, 30, 1)
	for k, h := range list[:29] {
		takes(t, s, true, []api.Header{h}, nil)
		stands(t, s, Count, (k+3)/4, h) // of the heights 2, 6, 10 and so on
	}
	takes(t, s, true, list[29:], nil)
	stands(t, s, Again, 8, g)
	for k, h := range list[:29] {
		var want []api.Header
		if k >= 8 {
			want = list[k-8 : k-7]
		}
		takes(t, s, true, []api.Header{h}, want)
		stands(t, s, Again, 8+min(k+1, 8), h)
	}
	takes(t, s, true, list[29:], list[21:])
	stands(t, s, Done, 8, list[29])
}

// P15.5: eight wait, the ninth lets the first go.
func TestWaiting(t *testing.T) {
	for _, c := range []struct{ many, told int }{{0, 0}, {1, 0}, {7, 0}, {8, 0}, {9, 1}, {10, 2}, {20, 12}, {39, 31}} {
		tree := planted(t, rules(0, 41), 0)
		list := row(tree.Get(0).Header, 40, 1)
		s := counted(t, tree, api.ID{}, list...)
		takes(t, s, true, list[:c.many], list[:c.told])
		if want := 10 + min(c.many, 8); s.Size() != want {
			t.Errorf("behind %d: Size %d, want %d", c.many, s.Size(), want)
		}
		takes(t, s, true, nil, nil)
		takes(t, s, true, list[c.many:], list[c.told:])
		stands(t, s, Done, 10, list[39])
	}
}

// P15.4 and P15.5: a bit that was held against a header is remembered on, when it is Done, too; an error alone ends that.
func TestRemembered(t *testing.T) {
	tree := planted(t, rules(0, 21), 0)
	list := row(tree.Get(0).Header, 20, 1)
	for first := range byte(4) {
		for many := range 20 {
			done, broken := counted(t, tree, api.ID{first}, list...), counted(t, tree, api.ID{first}, list...)
			for _, s := range []*Sync{done, broken} {
				takes(t, s, true, list[:many], list[:max(many-8, 0)])
				if want := 5 + min(many, 8); s.Size() != want {
					t.Errorf("behind %d: Size %d, want %d", many, s.Size(), want)
				}
			}
			takes(t, done, false, list[many:], list[max(many-8, 0):])
			for range 2 {
				stands(t, done, Done, 5, list[19])
				takes(t, done, true, list, nil)
			}
			over(t, broken, true, api.ErrOrphan, api.Header{})
		}
	}
}

// P15.4: if the phase doesn't end by headers, there must be more.
func TestShort(t *testing.T) {
	list := row(rules(0, 4).Genesis.Header, 3, 1)
	for known := range 3 {
		s, _ := begun(t, 4, api.ID{})
		over(t, s, false, api.ErrShort, list[:known]...)
		s, _ = begun(t, 4, api.ID{})
		takes(t, s, true, list[:known], nil)
		over(t, s, false, api.ErrShort)
		s = counted(t, planted(t, rules(0, 4), 0), api.ID{}, list...)
		over(t, s, false, api.ErrShort, list[:known]...)
		s = counted(t, planted(t, rules(0, 4), 0), api.ID{}, list...)
		takes(t, s, true, list[:known], nil)
		over(t, s, false, api.ErrShort)
	}
}

// P15.4: with an error those that would have been answered aren't, nor those that wait.
func TestNothingBesideAnError(t *testing.T) {
	tree := planted(t, rules(0, 31), 0)
	list := row(tree.Get(0).Header, 30, 1)
	s := counted(t, tree, api.ID{}, list...)
	takes(t, s, true, list[:10], list[:2])
	over(t, s, true, api.ErrOrphan, append(slices.Clone(list[10:20]), list[25])...)
	if s.Last() != tree.Get(0).ID {
		t.Error("a header is remembered")
	}
}

// forked is the headers of a list up to one, and others behind that, of which that at the place at has the Bit that is wanted.
func forked(list []api.Header, from, at int, salt api.ID, bit bool) []api.Header {
	for mark := 100; ; mark++ {
		other := append(slices.Clone(list[:from]), row(list[from-1], len(list)-from, mark)...)
		if Bit(salt, head.ID(other[at])) == bit {
			return other
		}
	}
}

// P15.4: what comes again is held against the bits, of those that are marked alone.
func TestPromise(t *testing.T) {
	tree := planted(t, rules(0, 21), 0)
	list := row(tree.Get(0).Header, 20, 1)
	for first := range 4 {
		salt := api.ID{byte(first)}
		last := 19 - (20-first)%4 // the place of the last one that is marked
		kept := Bit(salt, head.ID(list[last]))

		s := counted(t, tree, salt, list...)
		other := forked(list, last-1, last, salt, !kept)
		takes(t, s, true, other[:last], other[:last-8])
		over(t, s, true, api.ErrPromise, other[last:]...)

		s = counted(t, tree, salt, list...)
		over(t, s, false, api.ErrPromise, other[:last+1]...) // ahead of ErrShort

		s = counted(t, tree, salt, list...)
		other = forked(list, last-1, last, salt, kept)
		takes(t, s, false, other, other) // unlike ones, but their bits are the same
		if s.Phase() != Done || slices.Equal(other, list) {
			t.Errorf("phase %d", s.Phase())
		}

		if last < 19 {
			s = counted(t, tree, salt, list...)
			other = append(slices.Clone(list[:last+1]), row(list[last], 19-last, 7)...)
			takes(t, s, false, other, other)
		}
	}
}

// P15.4: bits are remembered in order, each of its own header.
func TestPromises(t *testing.T) {
	tree := planted(t, rules(0, 33), 0)
	list := row(tree.Get(0).Header, 32, 1)
	for at := 3; at < 32; at += 4 {
		salt := api.ID{4}
		other := forked(list, at, at, salt, !Bit(salt, head.ID(list[at])))
		s := counted(t, tree, salt, list...)
		takes(t, s, true, other[:at], other[:max(at-8, 0)])
		over(t, s, true, api.ErrPromise, other[at])
	}
}

// P15.4: wrong bits are told ahead of a promise that isn't kept.
func TestBitsAheadOfPromise(t *testing.T) {
	tree := planted(t, rules(0, 4), 0)
	g := tree.Get(0).Header
	list := row(g, 3, 1)
	for mark := range 10 {
		s := counted(t, tree, api.ID{1}, list...)
		over(t, s, true, api.ErrBits, turned(g, mark, hard)...)
	}
}

// alike is a salt, of such a first byte, by which two lists have the same bits as far as both go.
func alike(t *testing.T, first byte, one, two []api.Header) api.ID {
	t.Helper()
	for n := range 10000 {
		salt := api.ID{first, byte(n), byte(n >> 8)}
		same := true
		for k := range min(len(one), len(two)) {
			same = same && Bit(salt, head.ID(one[k])) == Bit(salt, head.ID(two[k]))
		}
		if same {
			return salt
		}
	}
	t.Fatal("no salt by which they are alike")
	return api.ID{}
}

// P15.4: easier headers than those that were counted are more: those for which no bit is left are held against none.
func TestMoreAgain(t *testing.T) {
	r := rules(1, 38)
	tree := planted(t, r, 0)
	few := turned(r.Genesis.Header, 1, hard, most, most, most)
	many := row(r.Genesis.Header, 37, 2)
	for first := range byte(4) {
		salt := alike(t, first, few, many)
		s := counted(t, tree, salt, few...)
		if s.Size() != 1 {
			t.Errorf("Size %d", s.Size())
		}
		takes(t, s, true, many[:4], nil)
		stands(t, s, Again, 1+4, many[3])
		takes(t, s, true, many[4:36], many[:28])
		stands(t, s, Again, 1+8, many[35])
		takes(t, s, false, many[36:], many[28:])
		stands(t, s, Done, 1, many[36])
	}
}

// P15.4: harder headers than those that were counted are fewer.
func TestFewerAgain(t *testing.T) {
	r := rules(1, 38)
	tree := planted(t, r, 0)
	few := turned(r.Genesis.Header, 1, hard, most, most, most)
	many := row(r.Genesis.Header, 37, 2)
	salt := alike(t, 0, few, many)
	s := counted(t, tree, salt, many...)
	stands(t, s, Again, 9, r.Genesis.Header)
	takes(t, s, true, few[:3], nil)
	stands(t, s, Again, 9+3, few[2])
	takes(t, s, false, few[3:], few)
	stands(t, s, Done, 9, few[3])
	takes(t, s, true, many, nil)
}

// P15.4: more than MaxBits. By rules that may be no chain needs so many headers, so the need is set by hand.
func TestMaxBits(t *testing.T) {
	tree := planted(t, rules(0, 1000), 0)
	list := row(tree.Get(0).Header, 1028, 1)
	s := New(tree, 0, api.ID{})
	s.need = num.Of(2 * 1028)
	takes(t, s, true, list[:1026], nil)
	stands(t, s, Count, 256, list[1025])
	takes(t, s, false, list[1026:1027], nil)
	stands(t, s, Again, 256, tree.Get(0).Header)
	takes(t, s, false, list, list[:1027])
	stands(t, s, Done, 256, list[1026])

	for _, need := range []uint64{2 * 1029, 2 * 1030} { // the one for which there is no room would be enough, or not
		s = New(tree, 0, api.ID{})
		s.need = num.Of(need)
		takes(t, s, true, list[:1027], nil)
		stands(t, s, Count, 256, list[1026])
		over(t, s, false, api.ErrLong, list[1027])

		s = New(tree, 0, api.ID{})
		s.need = num.Of(need)
		takes(t, s, true, list[:1027], nil)
		over(t, s, true, api.ErrProof, wrong(list[1027]))
	}
}

// P15.4: the most work that rules may want.
func TestMostWork(t *testing.T) {
	tree := planted(t, rules(0, 1000), 0)
	list := row(tree.Get(0).Header, 999, 1)
	s := New(tree, 0, api.ID{3})
	takes(t, s, true, list[:998], nil)
	stands(t, s, Count, 249, list[997])
	takes(t, s, true, list[998:], nil)
	stands(t, s, Again, 250, tree.Get(0).Header)
	takes(t, s, false, list, list)
	stands(t, s, Done, 250, list[998])
}

// P2: what is handed in is neither changed nor kept.
func TestHandedIn(t *testing.T) {
	tree := planted(t, rules(0, 21), 0)
	list := row(tree.Get(0).Header, 20, 1)
	s := New(tree, 0, api.ID{})
	var got []api.Header
	for range 2 {
		for k := 0; k < 20; k += 5 {
			handed := append(make([]api.Header, 0, 9), list[k:k+5]...)
			room := slices.Clone(handed[:9])
			got = append(got, s.Take(true, handed...)...)
			if !slices.Equal(handed[:9], room) {
				t.Fatal("what was handed in has changed")
			}
			sample.Change(handed, api.Header{Nonce: 7})
		}
	}
	if s.Phase() != Done || !slices.Equal(got, list) {
		t.Errorf("phase %d, %d headers", s.Phase(), len(got))
	}
}

// P2: what is answered shares no memory with what is kept, nor with other answers.
func TestAnswered(t *testing.T) {
	tree := planted(t, rules(0, 61), 0)
	list := row(tree.Get(0).Header, 60, 1)
	s := counted(t, tree, api.ID{}, list...)
	var answers [][]api.Header
	at := 0
	for at < 60 {
		step := min(1+at%7, 60-at)
		got := s.Take(true, list[at:at+step]...)
		answers = append(answers, slices.Clone(got))
		sample.Change(got, api.Header{Nonce: 7})
		_ = append(got, api.Header{Nonce: 8}, api.Header{Nonce: 9})
		at += step
	}
	if s.Phase() != Done || !slices.Equal(slices.Concat(answers...), list) {
		t.Errorf("phase %d; a header that waited has changed", s.Phase())
	}

	s = counted(t, tree, api.ID{}, list...)
	one := s.Take(true, list[:20]...)
	two := s.Take(true, list[20:40]...)
	three := s.Take(true, list[40:]...)
	before := slices.Clone(two)
	sample.Change(one, api.Header{})
	sample.Change(three, api.Header{})
	if !slices.Equal(two, before) || !slices.Equal(two, list[12:32]) {
		t.Error("answers share memory")
	}
}

// P2: two of one tree have nothing to do with each other, nor with what comes to the tree.
func TestApart(t *testing.T) {
	tree := planted(t, rules(0, 12), 2)
	list := row(tree.Get(2).Header, 9, 1)
	one, two := New(tree, 2, api.ID{}), New(tree, 2, api.ID{})
	takes(t, one, true, list, nil)
	stands(t, two, Count, 0, tree.Get(2).Header)
	over(t, two, false, api.ErrShort)
	for _, h := range list {
		tree.Add(h, math.MaxInt64)
	}
	tree.Fail(1)
	takes(t, one, false, list, list)
}

// P1: whatever they are given, the calls end.
func TestAnyArguments(t *testing.T) {
	d := sample.Dice(8)
	tree := planted(t, rules(2, 4), 3)
	for _, from := range []int{math.MinInt, -1, 0, 3, 4, 1 << 14, math.MaxInt} {
		s := New(tree, from, d.ID())
		if from < 0 || from > 3 {
			stands(t, s, Count, 0, tree.Get(0).Header)
		}
		s.Take(true)
		s.Take(true, nil...)
		over(t, s, true, api.ErrOrphan, d.Headers(5)...)
		over(t, New(tree, from, api.ID{}), false, api.ErrOrphan, api.Header{})
	}
	numbers := []int{math.MinInt, -1 << 40, -1000, -1, 0, 1, 4, 1000, 1 << 40, math.MaxInt}
	raw := []uint32{0, 1, 0x00ffffff, 0x03000001, easy, 0x2100ffff, math.MaxUint32}
	for _, limit := range raw {
		for _, n := range numbers {
			for _, other := range numbers {
				r := api.Rules{Limit: limit, Every: n, Spacing: other, Work: n}
				Need(r)
				for _, was := range raw {
					May(r, other, was, easy)
					May(r, other, easy, was)
				}
			}
		}
	}
}
