package tx

import (
	"bytes"
	"crypto/sha256"
	"encoding/binary"
	"math"
	"reflect"
	"slices"
	"testing"

	"tallystick/api"
)

// dice has numbers that are the same in every run.
type dice uint32

func (d *dice) next() int {
	*d = *d*1664525 + 1013904223
	return int(*d >> 8)
}

func (d *dice) below(n int) int { return d.next() % n }

func (d *dice) text(n int) []byte {
	b := make([]byte, n)
	for i := range b {
		b[i] = byte(d.next())
	}
	return b
}

func (d *dice) id() api.ID { return api.ID(d.text(32)) }

// makeTx is a transaction with so many inputs and outputs, of which no two are the same.
func (d *dice) makeTx(ins, outs, key int) api.Tx {
	var t api.Tx
	for range ins {
		t.Ins = append(t.Ins, api.In{Point: api.Point{Tx: d.id(), Index: uint32(d.next())<<8 | 5}, Key: d.text(key)})
	}
	for range outs {
		t.Outs = append(t.Outs, api.Out{Amount: int64(d.next())<<40 | int64(d.next()), Lock: d.id()})
	}
	return t
}

func (d *dice) makeHeader() api.Header {
	return api.Header{Version: uint32(d.next()), Prev: d.id(), Root: d.id(), Time: uint32(d.next()), Bits: uint32(d.next()), Nonce: uint32(d.next())}
}

// makeBlock is a block of so many transactions, each of an input and an output, whose bytes are 80.
func (d *dice) makeBlock(txs int) api.Block {
	b := api.Block{Header: d.makeHeader()}
	for range txs {
		b.Txs = append(b.Txs, d.makeTx(1, 1, 1))
	}
	return b
}

// counted is the shortest form of a number.
func counted(n int) []byte {
	switch {
	case n <= 252:
		return []byte{byte(n)}
	case n <= 65535:
		return binary.LittleEndian.AppendUint16([]byte{253}, uint16(n))
	}
	return binary.LittleEndian.AppendUint32([]byte{254}, uint32(n))
}

// laid is a transaction's bytes, by the standard's calls.
func laid(t api.Tx) []byte {
	b := counted(len(t.Ins))
	for _, in := range t.Ins {
		b = append(b, in.Point.Tx[:]...)
		b = binary.LittleEndian.AppendUint32(b, in.Point.Index)
		b = append(b, counted(len(in.Key))...)
		b = append(b, in.Key...)
	}
	b = append(b, counted(len(t.Outs))...)
	for _, out := range t.Outs {
		b = binary.LittleEndian.AppendUint64(b, uint64(out.Amount))
		b = append(b, out.Lock[:]...)
	}
	return b
}

func laidHeader(h api.Header) []byte {
	b := binary.LittleEndian.AppendUint32(nil, h.Version)
	b = append(b, h.Prev[:]...)
	b = append(b, h.Root[:]...)
	for _, n := range []uint32{h.Time, h.Bits, h.Nonce} {
		b = binary.LittleEndian.AppendUint32(b, n)
	}
	return b
}

func laidBlock(block api.Block) []byte {
	b := append(laidHeader(block.Header), counted(len(block.Txs))...)
	for _, t := range block.Txs {
		b = append(b, laid(t)...)
	}
	return b
}

func twice(b []byte) api.ID {
	once := sha256.Sum256(b)
	return sha256.Sum256(once[:])
}

// sameTx: whether two are the same, an empty list being no other than none.
func sameTx(a, b api.Tx) bool {
	return slices.EqualFunc(a.Ins, b.Ins, func(x, y api.In) bool { return x.Point == y.Point && bytes.Equal(x.Key, y.Key) }) &&
		slices.Equal(a.Outs, b.Outs)
}

func sameBlock(a, b api.Block) bool {
	return a.Header == b.Header && slices.EqualFunc(a.Txs, b.Txs, sameTx)
}

func refused(t *testing.T, what string, b []byte, want api.Errno) {
	t.Helper()
	if got, e := Read(b); e != want || !reflect.DeepEqual(got, api.Tx{}) {
		t.Errorf("Read of %s: %v, %v, want %v", what, got, e, want)
	}
}

func refusedBlock(t *testing.T, what string, b []byte, want api.Errno) {
	t.Helper()
	if got, e := ReadBlock(b); e != want || !reflect.DeepEqual(got, api.Block{}) {
		t.Errorf("ReadBlock of %s: %v, %v, want %v", what, got, e, want)
	}
}

// P7.1
func TestBytesInTheirOrder(t *testing.T) {
	one := api.In{Point: api.Point{Tx: api.ID{1, 31: 2}, Index: 0x06050403}, Key: []byte("key")}
	two := api.In{Point: api.Point{Tx: api.ID{7, 31: 8}, Index: 0xffffffff}}
	out := api.Out{Amount: 0x1122334455667788, Lock: api.ID{9, 31: 10}}
	least := api.Out{Amount: -2, Lock: api.ID{11, 31: 12}}
	none := make([]byte, 30)
	want := slices.Concat([]byte{2},
		[]byte{1}, none, []byte{2}, []byte{3, 4, 5, 6}, []byte{3, 'k', 'e', 'y'},
		[]byte{7}, none, []byte{8}, []byte{255, 255, 255, 255}, []byte{0},
		[]byte{2},
		[]byte{0x88, 0x77, 0x66, 0x55, 0x44, 0x33, 0x22, 0x11}, []byte{9}, none, []byte{10},
		[]byte{254, 255, 255, 255, 255, 255, 255, 255}, []byte{11}, none, []byte{12})
	given := api.Tx{Ins: []api.In{one, two}, Outs: []api.Out{out, least}}
	if got := Bytes(given); !bytes.Equal(got, want) {
		t.Errorf("Bytes: %x, want %x", got, want)
	}
	if got := Bytes(api.Tx{}); !bytes.Equal(got, []byte{0, 0}) {
		t.Errorf("Bytes of the zero one: %x", got)
	}
}

// P7.1: the document's example.
func TestBytesOfTheDocument(t *testing.T) {
	given := api.Tx{Ins: []api.In{{Key: []byte("k")}}, Outs: []api.Out{{Amount: 50}}}
	if n := len(Bytes(given)); n != 80 {
		t.Errorf("%d bytes", n)
	}
}

// P7.1: of what can't be read, too.
func TestBytesOfMany(t *testing.T) {
	d := dice(1)
	for _, n := range []int{0, 1, 2, 32, 33, 252, 253, 254, 300, 65535, 65536} {
		for _, x := range []api.Tx{d.makeTx(n, 1, 2), d.makeTx(1, n, 2), d.makeTx(1, 1, n)} {
			if !bytes.Equal(Bytes(x), laid(x)) {
				t.Errorf("Bytes of %d inputs, %d outputs", len(x.Ins), len(x.Outs))
			}
		}
	}
	for _, amount := range []int64{0, 1, -1, 255, 256, 1 << 32, 1 << 50, math.MaxInt64, math.MinInt64, math.MinInt64 + 1} {
		x := api.Tx{Outs: []api.Out{{Amount: amount}}}
		if !bytes.Equal(Bytes(x), laid(x)) {
			t.Errorf("Bytes of an amount of %d: %x", amount, Bytes(x))
		}
	}
}

// P7.1
func TestID(t *testing.T) {
	d := dice(2)
	seen := map[api.ID]bool{}
	for _, x := range []api.Tx{{}, d.makeTx(1, 1, 1), d.makeTx(3, 2, 0), d.makeTx(32, 32, 100), d.makeTx(40, 260, 300)} {
		if ID(x) != twice(laid(x)) || seen[ID(x)] {
			t.Errorf("ID of %d inputs, %d outputs: %x", len(x.Ins), len(x.Outs), ID(x))
		}
		seen[ID(x)] = true
	}
}

// P7.2
func TestRead(t *testing.T) {
	d := dice(3)
	list := []api.Tx{{}, {Outs: []api.Out{{Amount: math.MinInt64}, {Amount: -1}, {Amount: math.MaxInt64}}}}
	for _, n := range []int{0, 1, 2, 31, 32} {
		list = append(list, d.makeTx(n, 1, 3), d.makeTx(1, n, 3), d.makeTx(n, n, 0))
	}
	for _, key := range []int{0, 1, 2, 99, 100} {
		list = append(list, d.makeTx(1, 1, key), d.makeTx(32, 32, key))
	}
	for _, x := range list {
		if got, e := Read(laid(x)); e != api.OK || !sameTx(got, x) {
			t.Errorf("Read of %d inputs, %d outputs: %v, %v", len(x.Ins), len(x.Outs), got, e)
		}
	}
}

// P7.2
func TestReadOfTooMany(t *testing.T) {
	d := dice(4)
	for _, n := range []int{33, 34, 252, 253, 65536} {
		refused(t, "too many inputs", laid(d.makeTx(n, 1, 1)), api.ErrLong)
		refused(t, "too many outputs", laid(d.makeTx(1, n, 1)), api.ErrLong)
		refused(t, "too many of both", laid(d.makeTx(n, n, 1)), api.ErrLong)
	}
	for _, key := range []int{101, 102, 252, 253, 65536} {
		refused(t, "a key that is too long", laid(d.makeTx(1, 1, key)), api.ErrLong)
		last := d.makeTx(3, 1, 100)
		last.Ins[2].Key = d.text(key)
		refused(t, "a last key that is too long", laid(last), api.ErrLong)
	}
}

// P7.2: that a count is too great is told ahead of what is missing behind it.
func TestReadInOrder(t *testing.T) {
	d := dice(5)
	in, key := d.text(36), d.text(100)
	whole := slices.Concat([]byte{1}, in, []byte{0})
	for what, x := range map[string]struct {
		b    []byte
		want api.Errno
	}{
		"33 inputs that aren't there":            {[]byte{33}, api.ErrLong},
		"32 inputs that aren't there":            {[]byte{32}, api.ErrShort},
		"33 outputs that aren't there":           {slices.Concat(whole, []byte{33}), api.ErrLong},
		"32 outputs that aren't there":           {slices.Concat(whole, []byte{32}), api.ErrShort},
		"an output that isn't there":             {slices.Concat(whole, []byte{1}), api.ErrShort},
		"a key of 101 bytes that aren't there":   {slices.Concat([]byte{1}, in, []byte{101}), api.ErrLong},
		"a key of 100 bytes that aren't there":   {slices.Concat([]byte{1}, in, []byte{100}), api.ErrShort},
		"no count of outputs":                    {slices.Concat([]byte{1}, in, []byte{100}, key), api.ErrShort},
		"a count of inputs in another form":      {slices.Concat([]byte{253, 1, 0}, in, []byte{0, 0}), api.ErrForm},
		"a count of key's bytes in another form": {slices.Concat([]byte{1}, in, []byte{253, 0, 0, 0}), api.ErrForm},
		"a count of outputs in another form":     {slices.Concat(whole, []byte{253, 0, 0}), api.ErrForm},
		"another form, and 33":                   {[]byte{254, 33, 0, 0, 0}, api.ErrForm},
		"the most of all":                        {slices.Repeat([]byte{255}, 9), api.ErrLong},
		"33 inputs, and bytes in another form":   {slices.Concat([]byte{33, 253, 0, 0}, in), api.ErrLong},
		"a key that is too long ahead of a cut":  {slices.Concat([]byte{2}, in, []byte{101}, key), api.ErrLong},
		"a cut ahead of nothing else":            {slices.Concat([]byte{2}, in, []byte{100}, key), api.ErrShort},
	} {
		refused(t, what, x.b, x.want)
	}
}

// P7.2: bytes that end too soon, or too late.
func TestReadOfOtherLengths(t *testing.T) {
	d := dice(6)
	for _, x := range []api.Tx{{}, d.makeTx(1, 1, 1), d.makeTx(2, 3, 0), d.makeTx(3, 0, 100), d.makeTx(0, 2, 0)} {
		b := laid(x)
		for cut := range b {
			refused(t, "what is cut", b[:cut], api.ErrShort)
		}
		for _, behind := range [][]byte{{0}, {1}, {255}, b, make([]byte, 100)} {
			refused(t, "more than it is", slices.Concat(b, behind), api.ErrForm)
		}
	}
	refused(t, "nil", nil, api.ErrShort)
	refused(t, "a wrong count, with bytes behind it", append([]byte{33}, make([]byte, 500)...), api.ErrLong)
}

// P7.2 and P1: any bytes are those of the transaction that they are, or refused.
func TestReadOfAnyBytes(t *testing.T) {
	d := dice(7)
	ok := 0
	for range 20000 {
		b := laid(d.makeTx(d.below(3), d.below(3), d.below(4)))
		for range d.below(3) {
			b[d.below(len(b))] = byte(d.next())
		}
		if d.below(4) == 0 {
			b = d.text(d.below(12))
		}
		x, e := Read(b)
		if e == api.OK {
			ok++
			if !bytes.Equal(laid(x), b) {
				t.Fatalf("%x is read as %v", b, x)
			}
		} else if !slices.Contains([]api.Errno{api.ErrShort, api.ErrLong, api.ErrForm}, e) || !reflect.DeepEqual(x, api.Tx{}) {
			t.Fatalf("%x: %v, %v", b, x, e)
		}
	}
	if ok < 1000 || ok > 19000 {
		t.Errorf("%d of 20000 are transactions", ok)
	}
}

// P7.3
func TestBlock(t *testing.T) {
	d := dice(8)
	for _, n := range []int{0, 1, 2, 31, 32, 33, 252, 253, 300} {
		b := d.makeBlock(n)
		if got := Block(b); !bytes.Equal(got, laidBlock(b)) {
			t.Errorf("Block of %d transactions: %x", n, got)
		}
	}
	b := d.makeBlock(2)
	got := Block(b)
	if len(got) != 80+1+2*80 || got[80] != 2 || !bytes.Equal(got[:80], laidHeader(b.Header)) || !bytes.Equal(got[81:161], laid(b.Txs[0])) || !bytes.Equal(got[161:], laid(b.Txs[1])) {
		t.Errorf("Block of two: %x", got)
	}
	if got := Block(api.Block{}); !bytes.Equal(got, make([]byte, 81)) {
		t.Errorf("Block of the zero one: %x", got)
	}
}

// P7.3
func TestReadBlock(t *testing.T) {
	d := dice(9)
	list := []api.Block{{}}
	for _, n := range []int{0, 1, 2, 31, 32} {
		list = append(list, d.makeBlock(n))
	}
	list = append(list, api.Block{Header: d.makeHeader(), Txs: []api.Tx{d.makeTx(32, 32, 100), {}, d.makeTx(0, 1, 0), d.makeTx(1, 0, 100)}})
	for _, b := range list {
		if got, e := ReadBlock(laidBlock(b)); e != api.OK || !sameBlock(got, b) {
			t.Errorf("ReadBlock of %d transactions: %v, %v", len(b.Txs), got, e)
		}
	}
}

// P7.3
func TestReadBlockOfTooMany(t *testing.T) {
	d := dice(10)
	refusedBlock(t, "33 transactions", laidBlock(d.makeBlock(33)), api.ErrLong)
	refusedBlock(t, "100 transactions", laidBlock(d.makeBlock(100)), api.ErrLong)
	h := laidHeader(d.makeHeader())
	refusedBlock(t, "33 that aren't there", append(slices.Clone(h), 33), api.ErrLong)
	refusedBlock(t, "32 that aren't there", append(slices.Clone(h), 32), api.ErrShort)
	refusedBlock(t, "a count in another form", append(slices.Clone(h), 253, 0, 0), api.ErrForm)
	for _, wrong := range []api.Tx{d.makeTx(33, 1, 0), d.makeTx(1, 33, 0), d.makeTx(1, 1, 101)} {
		b := d.makeBlock(3)
		b.Txs[1] = wrong
		refusedBlock(t, "a transaction that is too long", laidBlock(b), api.ErrLong)
	}
}

// full is a block of 32 transactions that has just 8192 bytes.
func full(t *testing.T) api.Block {
	t.Helper()
	d := dice(11)
	b := d.makeBlock(32)
	for i := range b.Txs {
		b.Txs[i] = d.makeTx(2, 2, 48) // 252 bytes
	}
	b.Txs[0].Ins[0].Key = d.text(48 + 8192 - 81 - 32*252)
	if len(laidBlock(b)) != 8192 {
		t.Fatalf("the sample has %d bytes", len(laidBlock(b)))
	}
	return b
}

// P7.3: that there are too many bytes is told first.
func TestReadBlockOfMostBytes(t *testing.T) {
	b := full(t)
	whole := laidBlock(b)
	if got, e := ReadBlock(whole); e != api.OK || !sameBlock(got, b) {
		t.Errorf("ReadBlock of 8192 bytes: %v", e)
	}
	refusedBlock(t, "one byte more than may be", append(slices.Clone(whole), 0), api.ErrLong)
	refusedBlock(t, "one byte less than there are", whole[:8191], api.ErrShort)
	longer := b
	longer.Txs = slices.Clone(b.Txs)
	longer.Txs[1].Ins = slices.Clone(b.Txs[1].Ins)
	longer.Txs[1].Ins[0].Key = make([]byte, 49)
	refusedBlock(t, "a right block of 8193 bytes", laidBlock(longer), api.ErrLong)
	if n := len(Block(longer)); n != 8193 {
		t.Errorf("Block of more than can be read: %d bytes", n)
	}
	for _, n := range []int{82, 8191, 8192} {
		refusedBlock(t, "nothing, and bytes behind it", make([]byte, n), api.ErrForm)
	}
	for _, n := range []int{8193, 8194, 1 << 20} {
		refusedBlock(t, "too many bytes", make([]byte, n), api.ErrLong)
	}
	other := append(laidHeader(b.Header), 253, 0, 0)
	refusedBlock(t, "another form in too many bytes", append(other, make([]byte, 8193-len(other))...), api.ErrLong)
	refusedBlock(t, "another form in 8192 bytes", append(other, make([]byte, 8192-len(other))...), api.ErrForm)
}

// P7.3
func TestReadBlockOfOtherLengths(t *testing.T) {
	d := dice(12)
	for _, n := range []int{0, 1, 2} {
		b := laidBlock(d.makeBlock(n))
		for cut := range b {
			refusedBlock(t, "what is cut", b[:cut], api.ErrShort)
		}
		refusedBlock(t, "one byte more", append(slices.Clone(b), 0), api.ErrForm)
		refusedBlock(t, "80 bytes more", slices.Concat(b, b[:80]), api.ErrForm)
	}
	refusedBlock(t, "nil", nil, api.ErrShort)
}

// P7.3 and P1
func TestReadBlockOfAnyBytes(t *testing.T) {
	d := dice(13)
	ok := 0
	for range 5000 {
		b := laidBlock(d.makeBlock(d.below(4)))
		for range d.below(4) {
			b[d.below(len(b))] = byte(d.next())
		}
		x, e := ReadBlock(b)
		if e == api.OK {
			ok++
			if !bytes.Equal(laidBlock(x), b) {
				t.Fatalf("%x is read as %v", b, x)
			}
		} else if !reflect.DeepEqual(x, api.Block{}) {
			t.Fatalf("%x: %v, %v", b, x, e)
		}
	}
	if ok < 500 || ok > 4900 {
		t.Errorf("%d of 5000 are blocks", ok)
	}
}

func pair(a, b api.ID) api.ID { return twice(slices.Concat(a[:], b[:])) }

// P7.4
func TestRoot(t *testing.T) {
	d := dice(14)
	a, b, c := d.makeTx(1, 1, 1), d.makeTx(2, 1, 7), d.makeTx(40, 1, 200)
	x, y, z := twice(laid(a)), twice(laid(b)), twice(laid(c))
	for _, given := range []struct {
		list []api.Tx
		want api.ID
		same bool
	}{
		{nil, api.ID{}, false},
		{[]api.Tx{}, api.ID{}, false},
		{[]api.Tx{{}}, twice([]byte{0, 0}), false},
		{[]api.Tx{a}, x, false},
		{[]api.Tx{a, b}, pair(x, y), false},
		{[]api.Tx{b, a}, pair(y, x), false},
		{[]api.Tx{a, a}, pair(x, x), true},
		{[]api.Tx{a, b, c}, pair(pair(x, y), pair(z, z)), false},
		{[]api.Tx{a, b, c, c}, pair(pair(x, y), pair(z, z)), true},
		{[]api.Tx{a, b, b, c}, pair(pair(x, y), pair(y, z)), false},
		{[]api.Tx{a, b, a, b}, pair(pair(x, y), pair(x, y)), true},
	} {
		if got, same := Root(given.list...); got != given.want || same != given.same {
			t.Errorf("Root of %d: %x, %v", len(given.list), got, same)
		}
	}
}

// change goes over all that a list has, its spare room too.
func change[T any](list []T, to T) {
	wide := list[:cap(list)]
	for i := range wide {
		wide[i] = to
	}
}

func changeTx(x api.Tx) {
	for _, in := range x.Ins {
		change(in.Key, 0xee)
	}
	change(x.Ins, api.In{Key: []byte("other")})
	change(x.Outs, api.Out{Amount: 77})
}

// P2: what is handed in isn't changed.
func TestArgumentsStay(t *testing.T) {
	d := dice(15)
	b := d.makeBlock(5)
	b.Txs = append(b.Txs, d.makeTx(3, 3, 10))
	before, head := laidBlock(b), b.Header
	Block(b)
	Root(b.Txs...)
	for _, x := range b.Txs {
		Bytes(x)
		ID(x)
	}
	if b.Header != head || !bytes.Equal(laidBlock(b), before) {
		t.Error("a block that was handed in has changed")
	}
	room := append(slices.Clone(before), d.text(50)...)
	kept := slices.Clone(room)
	ReadBlock(room[:len(before)])
	Read(room[81:161])
	if !bytes.Equal(room, kept) {
		t.Error("bytes that were handed in have changed")
	}
}

// P2: what is answered shares nothing with what was handed in, nor with other answers, nor with itself.
func TestAnswersAreNew(t *testing.T) {
	d := dice(16)
	b := d.makeBlock(4)
	b.Txs = append(b.Txs, d.makeTx(3, 3, 10))
	laidOut, last := laidBlock(b), laid(b.Txs[4])
	one, two := Block(b), Bytes(b.Txs[4])
	change(one, 0xee)
	change(two, 0xee)
	if !bytes.Equal(laidBlock(b), laidOut) || !bytes.Equal(Block(b), laidOut) || !bytes.Equal(Bytes(b.Txs[4]), last) {
		t.Error("bytes that are answered are somebody else's")
	}

	room := slices.Clone(laidOut)
	read, _ := ReadBlock(room)
	other, _ := ReadBlock(room)
	change(room, 0xee)
	if !bytes.Equal(laidBlock(read), laidOut) {
		t.Error("a block shares with the bytes that it was read from")
	}
	for i, x := range read.Txs {
		changeTx(x)
		for _, y := range read.Txs[i+1:] {
			if !slices.ContainsFunc(b.Txs, func(z api.Tx) bool { return sameTx(y, z) }) {
				t.Error("transactions of one block share something")
			}
		}
	}
	change(read.Txs, api.Tx{})
	if !bytes.Equal(laidBlock(other), laidOut) {
		t.Error("two blocks share something")
	}

	room = slices.Clone(last)
	first, _ := Read(room)
	second, _ := Read(room)
	change(room, 0xee)
	if !sameTx(first, b.Txs[4]) {
		t.Error("a transaction shares with the bytes that it was read from")
	}
	change(first.Ins[0].Key, 0xee)
	if !bytes.Equal(first.Ins[1].Key, b.Txs[4].Ins[1].Key) {
		t.Error("two keys share their memory")
	}
	changeTx(first)
	if !sameTx(second, b.Txs[4]) {
		t.Error("two transactions share something")
	}
}
