package presync

import (
	"math/big"
	"slices"
	"testing"

	"tallystick/api"
	"tallystick/bits"
	"tallystick/head"
	"tallystick/index"
	"tallystick/sample"
)

// plain is a Sync as the chapter tells of it: all that came is kept, and all is worked out anew.
type plain struct {
	rules  api.Rules
	start  index.Node
	salt   api.ID
	phase  int
	reason api.Errno
	came   [Done][]api.Header // in the phases Count and Again
	told   int
}

func (p *plain) row() []api.Header { return p.came[min(p.phase, Again)] }

// last is the header of a phase that came last, or the start.
func (p *plain) last() api.Header {
	if row := p.row(); len(row) > 0 && p.phase != Over {
		return row[len(row)-1]
	}
	return p.start.Header
}

// kept are the bits of those of a phase that are marked.
func (p *plain) kept(phase int) []bool {
	var list []bool
	for k, h := range p.came[phase] {
		if (p.start.Height+1+k)%4 == int(p.salt[0]%4) {
			list = append(list, Bit(p.salt, head.ID(h)))
		}
	}
	return list
}

// fault takes a header into its phase, or tells why it may not be there.
func (p *plain) fault(h api.Header) api.Errno {
	last, height := p.last(), p.start.Height+len(p.row())+1
	if h.Prev != head.ID(last) {
		return api.ErrOrphan
	}
	if e := head.Proved(h, p.rules.Limit); e != api.OK {
		return e
	}
	if !May(p.rules, height, last.Bits, h.Bits) {
		return api.ErrBits
	}
	p.came[p.phase] = append(p.came[p.phase], h)
	first := p.kept(Count)
	if p.phase == Count && len(first) > MaxBits {
		return api.ErrLong
	}
	if p.phase == Again {
		again := p.kept(Again)
		both := min(len(first), len(again))
		if !slices.Equal(first[:both], again[:both]) {
			return api.ErrPromise
		}
	}
	return api.OK
}

// enough tells whether the headers of the phase have the work, with all ahead of them.
func (p *plain) enough() bool {
	sum := wide(p.start.Work)
	for _, h := range p.row() {
		target, _ := bits.Target(h.Bits)
		sum.Add(sum, wide(bits.Work(target)))
	}
	sum.Mod(sum, new(big.Int).Lsh(big.NewInt(1), 256))
	return sum.Cmp(wide(Need(p.rules))) >= 0
}

func (p *plain) take(more bool, list []api.Header) []api.Header {
	if p.phase >= Done {
		return nil
	}
	phase := p.phase
	e := api.OK
	for _, h := range list {
		if e = p.fault(h); e != api.OK {
			break
		}
		if p.enough() {
			p.phase++
			break
		}
	}
	if e == api.OK && p.phase == phase && !more {
		e = api.ErrShort
	}
	if e != api.OK {
		p.phase, p.reason = Over, e
		return nil
	}
	from, to := p.told, len(p.came[Again])
	if p.phase != Done {
		to = max(to-8, 0)
	}
	p.told = to
	return p.came[Again][from:to]
}

func (p *plain) size() int {
	if p.phase == Over {
		return 0
	}
	return len(p.kept(Count)) + len(p.came[Again]) - p.told
}

func (p *plain) compare(t *testing.T, s *Sync) {
	t.Helper()
	if s.Phase() != p.phase || s.Reason() != p.reason || s.Size() != p.size() || s.Last() != head.ID(p.last()) {
		t.Fatalf("Phase %d, Reason %v, Size %d, Last right: %v; want %d, %v, %d", s.Phase(), s.Reason(), s.Size(), s.Last() == head.ID(p.last()), p.phase, p.reason, p.size())
	}
	if s.Size() > MaxBits+Behind {
		t.Fatalf("Size %d", s.Size())
	}
}

// thrown is headers behind one whose height is given, of bits that may mostly stand there.
func thrown(d *sample.Dice, r api.Rules, h api.Header, height, many int) []api.Header {
	var list []api.Header
	for range many {
		height++
		b := h.Bits
		if r.Every != 0 && height%r.Every == 0 || d.Below(200) == 0 {
			choice := []uint32{easy, 0x203fffff, hard, 0x20100000}[d.Below(4)]
			if May(r, height, b, choice) || d.Below(50) == 0 {
				b = choice
			}
		}
		h = turned(h, d.Next(), b)[0]
		list = append(list, h)
	}
	return list
}

// spoiled is a list in which something may be wrong.
func spoiled(d *sample.Dice, list []api.Header) []api.Header {
	list = slices.Clone(list)
	if len(list) == 0 {
		return list
	}
	at := d.Below(len(list))
	switch d.Below(60) {
	case 0:
		return slices.Delete(list, at, at+1)
	case 1:
		return slices.Insert(list, at, list[at])
	case 2:
		list[at] = wrong(list[at])
	case 3:
		list[at].Bits = uint32(d.Next())
	case 4:
		return append(list, d.Header())
	}
	return list
}

// Any headers, in pieces of any length, are taken as the chapter says.
func TestAnyHeaders(t *testing.T) {
	d := sample.Dice(15)
	ends, reasons := map[int]int{}, map[api.Errno]int{}
	for range 1500 {
		r := rules(d.Below(4), d.Below(40))
		many := d.Below(6)
		if r.Every == 1 { // of which each one is harder than the one ahead of it
			many = min(many, 1)
		}
		tree := planted(t, r, many)
		from := d.Below(tree.Len())
		p := &plain{rules: r, start: tree.Get(from), salt: d.ID(), phase: Count}
		s := New(tree, from, p.salt)
		list := thrown(&d, r, p.start.Header, p.start.Height, 45)
		again := list
		if d.Below(2) == 0 {
			k := d.Below(len(list) - 1)
			again = append(slices.Clone(list[:k+1]), thrown(&d, r, list[k], p.start.Height+k+1, len(list)-k-1)...)
		}
		for steps := 0; p.phase < Done && steps < 100; steps++ {
			source := [][]api.Header{Count: list, Again: again}[p.phase]
			at := len(p.row())
			piece := spoiled(&d, source[at:min(at+d.Below(14), len(source))])
			more := d.Below(30) > 0
			if got, want := s.Take(more, piece...), p.take(more, piece); !slices.Equal(got, want) {
				t.Fatalf("Take: %d headers, want %d", len(got), len(want))
			}
			p.compare(t, s)
		}
		ends[p.phase]++
		reasons[p.reason]++
		if got := s.Take(true, list...); len(got) > 0 && p.phase >= Done {
			t.Fatal("headers behind the end")
		}
	}
	for _, e := range []api.Errno{api.OK, api.ErrOrphan, api.ErrProof, api.ErrBits, api.ErrPromise, api.ErrShort} {
		if reasons[e] < 20 {
			t.Errorf("%v came %d times", e, reasons[e])
		}
	}
	if ends[Done] < 300 || ends[Over] < 300 {
		t.Errorf("how they ended: %v, %v", ends, reasons)
	}
}
