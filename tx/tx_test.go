package tx

import (
	"bytes"
	"crypto/sha256"
	"math"
	"reflect"
	"slices"
	"testing"

	"tallystick/api"
	"tallystick/sample"
)

func twice(b []byte) api.ID {
	once := sha256.Sum256(b)
	return sha256.Sum256(once[:])
}

// sameTx: whether two are the same, an empty list being no other than none.
func sameTx(a, b api.Tx) bool {
	return slices.EqualFunc(a.Ins, b.Ins, func(x, y api.In) bool { return x.Point == y.Point && bytes.Equal(x.Key, y.Key) }) &&
		slices.Equal(a.Outs, b.Outs)
}

func sameBlock(a, b api.Block) bool {
	return a.Header == b.Header && slices.EqualFunc(a.Txs, b.Txs, sameTx)
}

func refused(t *testing.T, what string, b []byte, want api.Errno) {
	t.Helper()
	if got, e := Read(b); e != want || !reflect.DeepEqual(got, api.Tx{}) {
		t.Errorf("Read of %s: %v, %v, want %v", what, got, e, want)
	}
}

func refusedBlock(t *testing.T, what string, b []byte, want api.Errno) {
	t.Helper()
	if got, e := ReadBlock(b); e != want || !reflect.DeepEqual(got, api.Block{}) {
		t.Errorf("ReadBlock of %s: %v, %v, want %v", what, got, e, want)
	}
}

// P7.1
func TestBytesInTheirOrder(t *testing.T) {
	one := api.In{Point: api.Point{Tx: api.ID{1, 31: 2}, Index: 0x06050403}, Key: []byte("key")}
	two := api.In{Point: api.Point{Tx: api.ID{7, 31: 8}, Index: 0xffffffff}}
	out := api.Out{Amount: 0x1122334455667788, Lock: api.ID{9, 31: 10}}
	least := api.Out{Amount: -2, Lock: api.ID{11, 31: 12}}
	none := make([]byte, 30)
	want := slices.Concat([]byte{2},
		[]byte{1}, none, []byte{2}, []byte{3, 4, 5, 6}, []byte{3, 'k', 'e', 'y'},
		[]byte{7}, none, []byte{8}, []byte{255, 255, 255, 255}, []byte{0},
		[]byte{2},
		[]byte{0x88, 0x77, 0x66, 0x55, 0x44, 0x33, 0x22, 0x11}, []byte{9}, none, []byte{10},
		[]byte{254, 255, 255, 255, 255, 255, 255, 255}, []byte{11}, none, []byte{12})
	given := api.Tx{Ins: []api.In{one, two}, Outs: []api.Out{out, least}}
	if got := Bytes(given); !bytes.Equal(got, want) {
		t.Errorf("Bytes: %x, want %x", got, want)
	}
	if got := Bytes(api.Tx{}); !bytes.Equal(got, []byte{0, 0}) {
		t.Errorf("Bytes of the zero one: %x", got)
	}
}

// P7.1: the document's example.
func TestBytesOfTheDocument(t *testing.T) {
	given := api.Tx{Ins: []api.In{{Key: []byte("k")}}, Outs: []api.Out{{Amount: 50}}}
	if n := len(Bytes(given)); n != 80 {
		t.Errorf("%d bytes", n)
	}
}

// P7.1: of what can't be read, too.
func TestBytesOfMany(t *testing.T) {
	d := sample.Dice(1)
	for _, n := range []int{0, 1, 2, 32, 33, 252, 253, 254, 300, 65535, 65536} {
		for _, x := range []api.Tx{d.Tx(n, 1, 2), d.Tx(1, n, 2), d.Tx(1, 1, n)} {
			if !bytes.Equal(Bytes(x), sample.TxBytes(x)) {
				t.Errorf("Bytes of %d inputs, %d outputs", len(x.Ins), len(x.Outs))
			}
		}
	}
	for _, amount := range []int64{0, 1, -1, 255, 256, 1 << 32, 1 << 50, math.MaxInt64, math.MinInt64, math.MinInt64 + 1} {
		x := api.Tx{Outs: []api.Out{{Amount: amount}}}
		if !bytes.Equal(Bytes(x), sample.TxBytes(x)) {
			t.Errorf("Bytes of an amount of %d: %x", amount, Bytes(x))
		}
	}
}

// P7.1
func TestID(t *testing.T) {
	d := sample.Dice(2)
	seen := map[api.ID]bool{}
	for _, x := range []api.Tx{{}, d.Tx(1, 1, 1), d.Tx(3, 2, 0), d.Tx(32, 32, 100), d.Tx(40, 260, 300)} {
		if ID(x) != twice(sample.TxBytes(x)) || seen[ID(x)] {
			t.Errorf("ID of %d inputs, %d outputs: %x", len(x.Ins), len(x.Outs), ID(x))
		}
		seen[ID(x)] = true
	}
}

// P7.2
func TestRead(t *testing.T) {
	d := sample.Dice(3)
	list := []api.Tx{{}, {Outs: []api.Out{{Amount: math.MinInt64}, {Amount: -1}, {Amount: math.MaxInt64}}}}
	for _, n := range []int{0, 1, 2, 31, 32} {
		list = append(list, d.Tx(n, 1, 3), d.Tx(1, n, 3), d.Tx(n, n, 0))
	}
	for _, key := range []int{0, 1, 2, 99, 100} {
		list = append(list, d.Tx(1, 1, key), d.Tx(32, 32, key))
	}
	for _, x := range list {
		if got, e := Read(sample.TxBytes(x)); e != api.OK || !sameTx(got, x) {
			t.Errorf("Read of %d inputs, %d outputs: %v, %v", len(x.Ins), len(x.Outs), got, e)
		}
	}
}

// P7.2
func TestReadOfTooMany(t *testing.T) {
	d := sample.Dice(4)
	for _, n := range []int{33, 34, 252, 253, 65536} {
		refused(t, "too many inputs", sample.TxBytes(d.Tx(n, 1, 1)), api.ErrLong)
		refused(t, "too many outputs", sample.TxBytes(d.Tx(1, n, 1)), api.ErrLong)
		refused(t, "too many of both", sample.TxBytes(d.Tx(n, n, 1)), api.ErrLong)
	}
	for _, key := range []int{101, 102, 252, 253, 65536} {
		refused(t, "a key that is too long", sample.TxBytes(d.Tx(1, 1, key)), api.ErrLong)
		last := d.Tx(3, 1, 100)
		last.Ins[2].Key = d.Text(key)
		refused(t, "a last key that is too long", sample.TxBytes(last), api.ErrLong)
	}
}

// P7.2: that a count is too great is told ahead of what is missing behind it.
func TestReadInOrder(t *testing.T) {
	d := sample.Dice(5)
	in, key := d.Text(36), d.Text(100)
	whole := slices.Concat([]byte{1}, in, []byte{0})
	for what, x := range map[string]struct {
		b    []byte
		want api.Errno
	}{
		"33 inputs that aren't there":            {[]byte{33}, api.ErrLong},
		"32 inputs that aren't there":            {[]byte{32}, api.ErrShort},
		"33 outputs that aren't there":           {slices.Concat(whole, []byte{33}), api.ErrLong},
		"32 outputs that aren't there":           {slices.Concat(whole, []byte{32}), api.ErrShort},
		"an output that isn't there":             {slices.Concat(whole, []byte{1}), api.ErrShort},
		"a key of 101 bytes that aren't there":   {slices.Concat([]byte{1}, in, []byte{101}), api.ErrLong},
		"a key of 100 bytes that aren't there":   {slices.Concat([]byte{1}, in, []byte{100}), api.ErrShort},
		"no count of outputs":                    {slices.Concat([]byte{1}, in, []byte{100}, key), api.ErrShort},
		"a count of inputs in another form":      {slices.Concat([]byte{253, 1, 0}, in, []byte{0, 0}), api.ErrForm},
		"a count of key's bytes in another form": {slices.Concat([]byte{1}, in, []byte{253, 0, 0, 0}), api.ErrForm},
		"a count of outputs in another form":     {slices.Concat(whole, []byte{253, 0, 0}), api.ErrForm},
		"another form, and 33":                   {[]byte{254, 33, 0, 0, 0}, api.ErrForm},
		"the most of all":                        {slices.Repeat([]byte{255}, 9), api.ErrLong},
		"33 inputs, and bytes in another form":   {slices.Concat([]byte{33, 253, 0, 0}, in), api.ErrLong},
		"a key that is too long ahead of a cut":  {slices.Concat([]byte{2}, in, []byte{101}, key), api.ErrLong},
		"a cut ahead of nothing else":            {slices.Concat([]byte{2}, in, []byte{100}, key), api.ErrShort},
	} {
		refused(t, what, x.b, x.want)
	}
}

// P7.2: bytes that end too soon, or too late.
func TestReadOfOtherLengths(t *testing.T) {
	d := sample.Dice(6)
	for _, x := range []api.Tx{{}, d.Tx(1, 1, 1), d.Tx(2, 3, 0), d.Tx(3, 0, 100), d.Tx(0, 2, 0)} {
		b := sample.TxBytes(x)
		for cut := range b {
			refused(t, "what is cut", b[:cut], api.ErrShort)
		}
		for _, behind := range [][]byte{{0}, {1}, {255}, b, make([]byte, 100)} {
			refused(t, "more than it is", slices.Concat(b, behind), api.ErrForm)
		}
	}
	refused(t, "nil", nil, api.ErrShort)
	refused(t, "a wrong count, with bytes behind it", append([]byte{33}, make([]byte, 500)...), api.ErrLong)
}

// P7.2 and P1: any bytes are those of the transaction that they are, or refused.
func TestReadOfAnyBytes(t *testing.T) {
	d := sample.Dice(7)
	ok := 0
	for range 20000 {
		b := sample.TxBytes(d.Tx(d.Below(3), d.Below(3), d.Below(4)))
		for range d.Below(3) {
			b[d.Below(len(b))] = byte(d.Next())
		}
		if d.Below(4) == 0 {
			b = d.Text(d.Below(12))
		}
		x, e := Read(b)
		if e == api.OK {
			ok++
			if !bytes.Equal(sample.TxBytes(x), b) {
				t.Fatalf("%x is read as %v", b, x)
			}
		} else if !slices.Contains([]api.Errno{api.ErrShort, api.ErrLong, api.ErrForm}, e) || !reflect.DeepEqual(x, api.Tx{}) {
			t.Fatalf("%x: %v, %v", b, x, e)
		}
	}
	if ok < 1000 || ok > 19000 {
		t.Errorf("%d of 20000 are transactions", ok)
	}
}

// P7.3
func TestBlock(t *testing.T) {
	d := sample.Dice(8)
	for _, n := range []int{0, 1, 2, 31, 32, 33, 252, 253, 300} {
		b := d.Block(n, 1)
		if got := Block(b); !bytes.Equal(got, sample.BlockBytes(b)) {
			t.Errorf("Block of %d transactions: %x", n, got)
		}
	}
	b := d.Block(2, 1)
	got := Block(b)
	if len(got) != 80+1+2*80 || got[80] != 2 || !bytes.Equal(got[:80], sample.HeaderBytes(b.Header)) || !bytes.Equal(got[81:161], sample.TxBytes(b.Txs[0])) || !bytes.Equal(got[161:], sample.TxBytes(b.Txs[1])) {
		t.Errorf("Block of two: %x", got)
	}
	if got := Block(api.Block{}); !bytes.Equal(got, make([]byte, 81)) {
		t.Errorf("Block of the zero one: %x", got)
	}
}

// P7.3
func TestReadBlock(t *testing.T) {
	d := sample.Dice(9)
	list := []api.Block{{}}
	for _, n := range []int{0, 1, 2, 31, 32} {
		list = append(list, d.Block(n, 1))
	}
	list = append(list, api.Block{Header: d.Header(), Txs: []api.Tx{d.Tx(32, 32, 100), {}, d.Tx(0, 1, 0), d.Tx(1, 0, 100)}})
	for _, b := range list {
		if got, e := ReadBlock(sample.BlockBytes(b)); e != api.OK || !sameBlock(got, b) {
			t.Errorf("ReadBlock of %d transactions: %v, %v", len(b.Txs), got, e)
		}
	}
}

// P7.3
func TestReadBlockOfTooMany(t *testing.T) {
	d := sample.Dice(10)
	refusedBlock(t, "33 transactions", sample.BlockBytes(d.Block(33, 1)), api.ErrLong)
	refusedBlock(t, "100 transactions", sample.BlockBytes(d.Block(100, 1)), api.ErrLong)
	h := sample.HeaderBytes(d.Header())
	refusedBlock(t, "33 that aren't there", append(slices.Clone(h), 33), api.ErrLong)
	refusedBlock(t, "32 that aren't there", append(slices.Clone(h), 32), api.ErrShort)
	refusedBlock(t, "a count in another form", append(slices.Clone(h), 253, 0, 0), api.ErrForm)
	for _, wrong := range []api.Tx{d.Tx(33, 1, 0), d.Tx(1, 33, 0), d.Tx(1, 1, 101)} {
		b := d.Block(3, 1)
		b.Txs[1] = wrong
		refusedBlock(t, "a transaction that is too long", sample.BlockBytes(b), api.ErrLong)
	}
}

// full is a block of 32 transactions that has just 8192 bytes.
func full(t *testing.T) api.Block {
	t.Helper()
	d := sample.Dice(11)
	b := d.Block(32, 1)
	for i := range b.Txs {
		b.Txs[i] = d.Tx(2, 2, 48) // 252 bytes
	}
	b.Txs[0].Ins[0].Key = d.Text(48 + 8192 - 81 - 32*252)
	if len(sample.BlockBytes(b)) != 8192 {
		t.Fatalf("the sample has %d bytes", len(sample.BlockBytes(b)))
	}
	return b
}

// P7.3: that there are too many bytes is told first.
func TestReadBlockOfMostBytes(t *testing.T) {
	b := full(t)
	whole := sample.BlockBytes(b)
	if got, e := ReadBlock(whole); e != api.OK || !sameBlock(got, b) {
		t.Errorf("ReadBlock of 8192 bytes: %v", e)
	}
	refusedBlock(t, "one byte more than may be", append(slices.Clone(whole), 0), api.ErrLong)
	refusedBlock(t, "one byte less than there are", whole[:8191], api.ErrShort)
	longer := b
	longer.Txs = slices.Clone(b.Txs)
	longer.Txs[1].Ins = slices.Clone(b.Txs[1].Ins)
	longer.Txs[1].Ins[0].Key = make([]byte, 49)
	refusedBlock(t, "a right block of 8193 bytes", sample.BlockBytes(longer), api.ErrLong)
	if n := len(Block(longer)); n != 8193 {
		t.Errorf("Block of more than can be read: %d bytes", n)
	}
	for _, n := range []int{82, 8191, 8192} {
		refusedBlock(t, "nothing, and bytes behind it", make([]byte, n), api.ErrForm)
	}
	for _, n := range []int{8193, 8194, 1 << 20} {
		refusedBlock(t, "too many bytes", make([]byte, n), api.ErrLong)
	}
	other := append(sample.HeaderBytes(b.Header), 253, 0, 0)
	refusedBlock(t, "another form in too many bytes", append(other, make([]byte, 8193-len(other))...), api.ErrLong)
	refusedBlock(t, "another form in 8192 bytes", append(other, make([]byte, 8192-len(other))...), api.ErrForm)
}

// P7.3
func TestReadBlockOfOtherLengths(t *testing.T) {
	d := sample.Dice(12)
	for _, n := range []int{0, 1, 2} {
		b := sample.BlockBytes(d.Block(n, 1))
		for cut := range b {
			refusedBlock(t, "what is cut", b[:cut], api.ErrShort)
		}
		refusedBlock(t, "one byte more", append(slices.Clone(b), 0), api.ErrForm)
		refusedBlock(t, "80 bytes more", slices.Concat(b, b[:80]), api.ErrForm)
	}
	refusedBlock(t, "nil", nil, api.ErrShort)
}

// P7.3 and P1
func TestReadBlockOfAnyBytes(t *testing.T) {
	d := sample.Dice(13)
	ok := 0
	for range 5000 {
		b := sample.BlockBytes(d.Block(d.Below(4), 1))
		for range d.Below(4) {
			b[d.Below(len(b))] = byte(d.Next())
		}
		x, e := ReadBlock(b)
		if e == api.OK {
			ok++
			if !bytes.Equal(sample.BlockBytes(x), b) {
				t.Fatalf("%x is read as %v", b, x)
			}
		} else if !reflect.DeepEqual(x, api.Block{}) {
			t.Fatalf("%x: %v, %v", b, x, e)
		}
	}
	if ok < 500 || ok > 4900 {
		t.Errorf("%d of 5000 are blocks", ok)
	}
}

func pair(a, b api.ID) api.ID { return twice(slices.Concat(a[:], b[:])) }

// P7.4
func TestRoot(t *testing.T) {
	d := sample.Dice(14)
	a, b, c := d.Tx(1, 1, 1), d.Tx(2, 1, 7), d.Tx(40, 1, 200)
	x, y, z := twice(sample.TxBytes(a)), twice(sample.TxBytes(b)), twice(sample.TxBytes(c))
	for _, given := range []struct {
		list []api.Tx
		want api.ID
		same bool
	}{
		{nil, api.ID{}, false},
		{[]api.Tx{}, api.ID{}, false},
		{[]api.Tx{{}}, twice([]byte{0, 0}), false},
		{[]api.Tx{a}, x, false},
		{[]api.Tx{a, b}, pair(x, y), false},
		{[]api.Tx{b, a}, pair(y, x), false},
		{[]api.Tx{a, a}, pair(x, x), true},
		{[]api.Tx{a, b, c}, pair(pair(x, y), pair(z, z)), false},
		{[]api.Tx{a, b, c, c}, pair(pair(x, y), pair(z, z)), true},
		{[]api.Tx{a, b, b, c}, pair(pair(x, y), pair(y, z)), false},
		{[]api.Tx{a, b, a, b}, pair(pair(x, y), pair(x, y)), true},
	} {
		if got, same := Root(given.list...); got != given.want || same != given.same {
			t.Errorf("Root of %d: %x, %v", len(given.list), got, same)
		}
	}
}

// P2: what is handed in isn't changed.
func TestArgumentsStay(t *testing.T) {
	d := sample.Dice(15)
	b := d.Block(5, 1)
	b.Txs = append(b.Txs, d.Tx(3, 3, 10))
	before, head := sample.BlockBytes(b), b.Header
	Block(b)
	Root(b.Txs...)
	for _, x := range b.Txs {
		Bytes(x)
		ID(x)
	}
	if b.Header != head || !bytes.Equal(sample.BlockBytes(b), before) {
		t.Error("a block that was handed in has changed")
	}
	room := append(slices.Clone(before), d.Text(50)...)
	kept := slices.Clone(room)
	ReadBlock(room[:len(before)])
	Read(room[81:161])
	if !bytes.Equal(room, kept) {
		t.Error("bytes that were handed in have changed")
	}
}

// P2: what is answered shares nothing with what was handed in, nor with other answers, nor with itself.
func TestAnswersAreNew(t *testing.T) {
	d := sample.Dice(16)
	b := d.Block(4, 1)
	b.Txs = append(b.Txs, d.Tx(3, 3, 10))
	laidOut, last := sample.BlockBytes(b), sample.TxBytes(b.Txs[4])
	one, two := Block(b), Bytes(b.Txs[4])
	sample.Change(one, 0xee)
	sample.Change(two, 0xee)
	if !bytes.Equal(sample.BlockBytes(b), laidOut) || !bytes.Equal(Block(b), laidOut) || !bytes.Equal(Bytes(b.Txs[4]), last) {
		t.Error("bytes that are answered are somebody else's")
	}

	room := slices.Clone(laidOut)
	read, _ := ReadBlock(room)
	other, _ := ReadBlock(room)
	sample.Change(room, 0xee)
	if !bytes.Equal(sample.BlockBytes(read), laidOut) {
		t.Error("a block shares with the bytes that it was read from")
	}
	for i, x := range read.Txs {
		sample.ChangeTx(x)
		for _, y := range read.Txs[i+1:] {
			if !slices.ContainsFunc(b.Txs, func(z api.Tx) bool { return sameTx(y, z) }) {
				t.Error("transactions of one block share something")
			}
		}
	}
	sample.Change(read.Txs, api.Tx{})
	if !bytes.Equal(sample.BlockBytes(other), laidOut) {
		t.Error("two blocks share something")
	}

	room = slices.Clone(last)
	first, _ := Read(room)
	second, _ := Read(room)
	sample.Change(room, 0xee)
	if !sameTx(first, b.Txs[4]) {
		t.Error("a transaction shares with the bytes that it was read from")
	}
	sample.Change(first.Ins[0].Key, 0xee)
	if !bytes.Equal(first.Ins[1].Key, b.Txs[4].Ins[1].Key) {
		t.Error("two keys share their memory")
	}
	sample.ChangeTx(first)
	if !sameTx(second, b.Txs[4]) {
		t.Error("two transactions share something")
	}
}
