package msg

import (
	"bytes"
	"crypto/sha256"
	"encoding/binary"
	"math"
	"reflect"
	"slices"
	"strings"
	"testing"

	"tallystick/api"
	"tallystick/frame"
	"tallystick/sample"
)

// full is a right block of so many bytes, some 8000.
func full(t *testing.T, d *sample.Dice, size int) api.Block {
	t.Helper()
	b := d.Block(32, 60)
	for i := range b.Txs {
		b.Txs[i].Outs = append(b.Txs[i].Outs, api.Out{Amount: 5, Lock: d.ID()}, api.Out{Lock: d.ID()})
	}
	b.Txs[31].Ins[0].Key = nil
	missing := size - len(sample.BlockBytes(b))
	for i := range b.Txs {
		n := min(max(missing, 0), 100-len(b.Txs[i].Ins[0].Key))
		b.Txs[i].Ins[0].Key = append(b.Txs[i].Ins[0].Key, d.Text(n)...)
		missing -= n
	}
	if len(sample.BlockBytes(b)) != size {
		t.Fatalf("the sample has %d bytes, not %d", len(sample.BlockBytes(b)), size)
	}
	return b
}

// everything is a message of a kind which has of all there is, whether its kind has that or not.
func everything(d *sample.Dice, kind int) Msg {
	return Msg{Kind: kind, Nonce: uint64(d.Next())<<40 | uint64(d.Next()), Height: uint32(d.Next())<<8 | 3, Names: d.IDs(3), Stop: d.ID(), Heads: d.Headers(2), Block: d.Block(2, 3)}
}

// of is what a message's kind has of it.
func of(m Msg) Msg {
	switch m.Kind {
	case 1:
		return Msg{Kind: m.Kind, Nonce: m.Nonce, Height: m.Height}
	case 3:
		return Msg{Kind: m.Kind, Names: m.Names, Stop: m.Stop}
	case 4:
		return Msg{Kind: m.Kind, Heads: m.Heads}
	case 5, 6, 8:
		return Msg{Kind: m.Kind, Names: m.Names}
	case 7:
		return Msg{Kind: m.Kind, Block: m.Block}
	case 9, 10:
		return Msg{Kind: m.Kind, Nonce: m.Nonce}
	}
	return Msg{Kind: m.Kind}
}

var theWords = []string{"", "version", "verack", "getheaders", "headers", "inv", "getdata", "block", "notfound", "ping", "pong"}

func laidNames(list []api.ID) []byte {
	b := sample.Count(len(list))
	for _, id := range list {
		b = append(b, id[:]...)
	}
	return b
}

// laid is a message's data, by the standard's calls.
func laid(m Msg) []byte {
	switch theWords[m.Kind] {
	case "version":
		b := binary.LittleEndian.AppendUint64([]byte{1, 0, 0, 0}, m.Nonce)
		return binary.LittleEndian.AppendUint32(b, m.Height)
	case "getheaders":
		return append(laidNames(m.Names), m.Stop[:]...)
	case "inv", "getdata", "notfound":
		return laidNames(m.Names)
	case "headers":
		b := sample.Count(len(m.Heads))
		for _, h := range m.Heads {
			b = append(b, sample.HeaderBytes(h)...)
		}
		return b
	case "block":
		return sample.BlockBytes(m.Block)
	case "ping", "pong":
		return binary.LittleEndian.AppendUint64(nil, m.Nonce)
	}
	return nil
}

func framed(word string, data []byte) []byte {
	once := sha256.Sum256(data)
	both := sha256.Sum256(once[:])
	b := append([]byte("YLAT"), word+strings.Repeat("\x00", 12-len(word))...)
	b = binary.LittleEndian.AppendUint32(b, uint32(len(data)))
	return slices.Concat(b, both[:4], data)
}

func whole(m Msg) []byte { return framed(theWords[m.Kind], laid(m)) }

// same: whether two are the same, an empty list being no other than none.
func same(a, b Msg) bool {
	return a.Kind == b.Kind && a.Nonce == b.Nonce && a.Height == b.Height && slices.Equal(a.Names, b.Names) && a.Stop == b.Stop &&
		slices.Equal(a.Heads, b.Heads) && bytes.Equal(sample.BlockBytes(a.Block), sample.BlockBytes(b.Block))
}

func encoded(t *testing.T, what string, m Msg) {
	t.Helper()
	if got, e := Encode(m); e != api.OK || !bytes.Equal(got, whole(m)) {
		t.Errorf("Encode of %s: %v, %.200x, want %.200x", what, e, got, whole(m))
	}
}

func notEncoded(t *testing.T, what string, m Msg, want api.Errno) {
	t.Helper()
	if got, e := Encode(m); e != want || len(got) != 0 {
		t.Errorf("Encode of %s: %v, %.200x, want %v", what, e, got, want)
	}
}

func decoded(t *testing.T, what string, word string, data []byte, want Msg) {
	t.Helper()
	if got, e := Decode(frame.Frame{Word: word, Data: data}); e != api.OK || !same(got, want) {
		t.Errorf("Decode of %s: %v, %v, want %v", what, e, got, want)
	}
}

func notDecoded(t *testing.T, what string, word string, data []byte, want api.Errno) {
	t.Helper()
	if got, e := Decode(frame.Frame{Word: word, Data: data}); e != want || !reflect.DeepEqual(got, Msg{}) {
		t.Errorf("Decode of %s: %v, %v, want %v", what, e, got, want)
	}
}

// P9.1
func TestKind(t *testing.T) {
	kinds := []int{0, Version, Verack, GetHeaders, Headers, Inv, GetData, Block, NotFound, Ping, Pong}
	for i, word := range theWords {
		if kinds[i] != i || Kind(word) != i {
			t.Errorf("Kind of %q: %d, which should be %d", word, Kind(word), i)
		}
	}
	if MaxHeaders != 32 || MaxNames != 64 || MaxLocator != 32 {
		t.Error("the limits are others")
	}
}

// P9.1: other words have no kind.
func TestKindOfNone(t *testing.T) {
	for _, word := range []string{"", " ", "\x00", "a", "Version", "VERSION", "addr", "ping\x00", "pin", "pings", "versio", "head", "header", "data", "get", "version ", " version", "verackpong", "\xff\xfe", strings.Repeat("ping", 1000)} {
		if Kind(word) != 0 {
			t.Errorf("Kind of %.50q: %d", word, Kind(word))
		}
	}
	for _, word := range theWords[1:] {
		for i := range word {
			for _, other := range []string{word[:i], word[i+1:] + "z", word[:i] + "\x00" + word[i+1:], strings.ToUpper(word[:i+1]) + word[i+1:]} {
				if Kind(other) != 0 {
					t.Errorf("Kind of %q: %d", other, Kind(other))
				}
			}
		}
	}
}

// P9.2: byte for byte.
func TestEncodeInItsOrder(t *testing.T) {
	m := Msg{Nonce: 0x0807060504030201, Height: 0x0c0b0a09, Names: []api.ID{{1, 31: 2}, {3, 31: 4}}, Stop: api.ID{5, 31: 6}}
	none := string(make([]byte, 30))
	names := "\x02" + "\x01" + none + "\x02" + "\x03" + none + "\x04"
	for kind, want := range map[int]string{
		1: "\x01\x00\x00\x00" + "\x01\x02\x03\x04\x05\x06\x07\x08" + "\x09\x0a\x0b\x0c", 2: "",
		3: names + "\x05" + none + "\x06", 4: "\x00", 5: names, 6: names, 7: string(make([]byte, 81)), 8: names,
		9: "\x01\x02\x03\x04\x05\x06\x07\x08", 10: "\x01\x02\x03\x04\x05\x06\x07\x08",
	} {
		m.Kind = kind
		if got, e := Encode(m); e != api.OK || !bytes.Equal(got, framed(theWords[kind], []byte(want))) {
			t.Errorf("Encode of a %s: %v, %q, want %q", theWords[kind], e, got, want)
		}
	}
}

// P9.2: the document's example.
func TestEncodeOfTheDocument(t *testing.T) {
	b, e := Encode(Msg{Kind: Ping, Nonce: 7})
	if e != api.OK || len(b) != 32 || string(b[:16]) != "YLATping\x00\x00\x00\x00\x00\x00\x00\x00" || b[16] != 8 || b[24] != 7 {
		t.Errorf("a ping: %v, %x", e, b)
	}
}

// P9.2: what a kind doesn't have isn't written, how much it ever is.
func TestEncodeOfWhatAKindHas(t *testing.T) {
	d := sample.Dice(1)
	for kind := 1; kind <= 10; kind++ {
		encoded(t, theWords[kind], everything(&d, kind))
		encoded(t, theWords[kind]+" of nothing", Msg{Kind: kind})
	}
	for kind, has := range map[int]string{1: "", 2: "", 3: "names", 4: "heads", 5: "names", 6: "names", 7: "block", 8: "names", 9: "", 10: ""} {
		m := everything(&d, kind)
		if has != "names" {
			m.Names = d.IDs(200)
		}
		if has != "heads" {
			m.Heads = d.Headers(200)
		}
		if has != "block" {
			m.Block = d.Block(200, 200)
		}
		encoded(t, theWords[kind]+" beside too much", m)
	}
	for _, n := range []uint64{0, 1, 255, 256, math.MaxUint32, 1 << 32, 1 << 63, math.MaxUint64} {
		for _, kind := range []int{Version, Ping, Pong} {
			encoded(t, "a nonce", Msg{Kind: kind, Nonce: n, Height: uint32(n >> 7)})
		}
	}
}

// P9.2: the counts' edges.
func TestEncodeOfMany(t *testing.T) {
	d := sample.Dice(2)
	for _, n := range []int{0, 1, 31, 32, 33, 63, 64, 65, 252, 253, 65536} {
		ids := d.IDs(n)
		for kind, most := range map[int]int{GetHeaders: 32, Inv: 64, GetData: 64, NotFound: 64} {
			m := Msg{Kind: kind, Names: ids, Stop: d.ID()}
			if n <= most {
				encoded(t, theWords[kind], m)
			} else {
				notEncoded(t, "too many names", m, api.ErrLong)
			}
		}
		m := Msg{Kind: Headers, Heads: d.Headers(n)}
		if n <= 32 {
			encoded(t, "headers", m)
		} else {
			notEncoded(t, "too many headers", m, api.ErrLong)
		}
	}
}

// P9.2: a block's bytes may be 8192, whatever its parts are.
func TestEncodeOfBlocks(t *testing.T) {
	d := sample.Dice(3)
	for _, n := range []int{8000, 8191, 8192} {
		encoded(t, "a block that may be", Msg{Kind: Block, Block: full(t, &d, n)})
	}
	for _, n := range []int{8193, 8194} {
		notEncoded(t, "a block that is too long", Msg{Kind: Block, Block: full(t, &d, n)}, api.ErrLong)
	}
	notEncoded(t, "a block that is no frame's data", Msg{Kind: Block, Block: d.Block(300, 100)}, api.ErrLong)
	many := api.Block{Txs: make([]api.Tx, 33)}
	encoded(t, "a block of too many", Msg{Kind: Block, Block: many})
	notDecoded(t, "a block of too many", "block", sample.BlockBytes(many), api.ErrLong)
	encoded(t, "a block of too long a key", Msg{Kind: Block, Block: d.Block(1, 101)})
}

// P9.2: that there is no such kind is told first.
func TestEncodeOfNoKind(t *testing.T) {
	d := sample.Dice(4)
	for _, kind := range []int{0, -1, 11, 12, 255, 256, 257, math.MinInt, math.MaxInt} {
		m := everything(&d, kind)
		notEncoded(t, "no kind", m, api.ErrKind)
		m.Names, m.Heads, m.Block = d.IDs(100), d.Headers(100), d.Block(100, 100)
		notEncoded(t, "too much of no kind", m, api.ErrKind)
	}
}

// P9.3: what the kind doesn't have is zero.
func TestDecode(t *testing.T) {
	d := sample.Dice(5)
	for kind := 1; kind <= 10; kind++ {
		for range 20 {
			m := everything(&d, kind)
			decoded(t, theWords[kind], theWords[kind], laid(m), of(m))
		}
		decoded(t, theWords[kind]+" of nothing", theWords[kind], laid(Msg{Kind: kind}), Msg{Kind: kind})
		m := Msg{Kind: kind, Nonce: math.MaxUint64, Height: math.MaxUint32}
		decoded(t, theWords[kind]+" of great numbers", theWords[kind], laid(m), of(m))
	}
	m, e := Decode(frame.Frame{Word: "version", Data: []byte("\x01\x00\x00\x00\x01\x02\x03\x04\x05\x06\x07\x08\x09\x0a\x0b\x0c")})
	if e != api.OK || !reflect.DeepEqual(m, Msg{Kind: Version, Nonce: 0x0807060504030201, Height: 0x0c0b0a09}) {
		t.Errorf("Decode of a version: %v, %v", e, m)
	}
	m, e = Decode(frame.Frame{Word: "verack"})
	if e != api.OK || !reflect.DeepEqual(m, Msg{Kind: Verack}) {
		t.Errorf("Decode of a verack: %v, %v", e, m)
	}
}

// P9.3
func TestDecodeOfNoKind(t *testing.T) {
	for _, word := range []string{"", "addr", "Ping", "ping\x00", "pingpong", "\xff", strings.Repeat("a", 100)} {
		for _, data := range [][]byte{nil, {1}, make([]byte, 8), make([]byte, 20000)} {
			notDecoded(t, "no kind", word, data, api.ErrKind)
		}
	}
}

// P9.3: the counts' edges; that they are too great is told ahead of what is missing.
func TestDecodeOfMany(t *testing.T) {
	d := sample.Dice(6)
	for _, n := range []int{0, 1, 31, 32, 33, 63, 64, 65, 252, 253, 65536} {
		for word, most := range map[string]int{"getheaders": 32, "inv": 64, "getdata": 64, "notfound": 64, "headers": 32} {
			m := Msg{Kind: Kind(word), Names: d.IDs(n), Stop: d.ID(), Heads: d.Headers(n)}
			if n <= most {
				decoded(t, word, word, laid(m), of(m))
			} else {
				notDecoded(t, "too many of "+word, word, laid(m), api.ErrLong)
				notDecoded(t, "too many that aren't there of "+word, word, sample.Count(n), api.ErrLong)
			}
			if 0 < n && n <= most {
				notDecoded(t, "what isn't there of "+word, word, sample.Count(n), api.ErrShort)
			}
		}
	}
	for _, word := range []string{"getheaders", "inv", "getdata", "notfound", "headers"} {
		for _, form := range []string{"\xfd\x00\x00", "\xfd\x01\x00", "\xfd\xfc\x00", "\xfe\x21\x00\x00\x00", "\xff\x00\x00\x00\x00\x00\x00\x00\x00"} {
			notDecoded(t, "another form in "+word, word, append([]byte(form), make([]byte, 112)...), api.ErrForm)
		}
		notDecoded(t, "the most of all in "+word, word, slices.Repeat([]byte{255}, 9), api.ErrLong)
		notDecoded(t, "a cut count in "+word, word, []byte{253, 1}, api.ErrShort)
	}
}

// P9.3: data that end too soon, or too late.
func TestDecodeOfOtherLengths(t *testing.T) {
	d := sample.Dice(7)
	for kind := 1; kind <= 10; kind++ {
		for _, m := range []Msg{everything(&d, kind), {Kind: kind}} {
			b := laid(m)
			for cut := range b {
				notDecoded(t, "a cut "+theWords[kind], theWords[kind], b[:cut], api.ErrShort)
			}
			for _, behind := range [][]byte{{0}, {1}, {255}, make([]byte, 32), d.Text(80)} {
				notDecoded(t, "too long a "+theWords[kind], theWords[kind], slices.Concat(b, behind), api.ErrForm)
			}
		}
		if kind != Block {
			m := everything(&d, kind)
			notDecoded(t, "much behind a "+theWords[kind], theWords[kind], append(laid(m), make([]byte, 20000)...), api.ErrForm)
		}
	}
}

// P9.3: that bytes are missing is told ahead of a wrong number.
func TestDecodeOfOtherVersions(t *testing.T) {
	d := sample.Dice(8)
	for _, number := range []uint32{0, 2, 3, 257, 1 << 8, 1 << 24, 1<<16 | 1, 1<<24 | 1, math.MaxUint32} {
		b := append(binary.LittleEndian.AppendUint32(nil, number), d.Text(12)...)
		notDecoded(t, "another version", "version", b, api.ErrForm)
		notDecoded(t, "too long another version", "version", append(b, 0), api.ErrForm)
		for cut := range b {
			notDecoded(t, "a cut other version", "version", b[:cut], api.ErrShort)
		}
	}
}

// P9.3: of a block layer 7's errors.
func TestDecodeOfBlocks(t *testing.T) {
	d := sample.Dice(9)
	for _, n := range []int{8000, 8191, 8192} {
		b := full(t, &d, n)
		decoded(t, "a long block", "block", sample.BlockBytes(b), Msg{Kind: Block, Block: b})
	}
	notDecoded(t, "a block that is too long", "block", sample.BlockBytes(full(t, &d, 8193)), api.ErrLong)
	notDecoded(t, "too many bytes", "block", make([]byte, 8193), api.ErrLong)
	notDecoded(t, "many bytes", "block", make([]byte, 8192), api.ErrForm)
	notDecoded(t, "33 transactions", "block", sample.BlockBytes(d.Block(33, 0)), api.ErrLong)
	notDecoded(t, "a key that is too long", "block", sample.BlockBytes(d.Block(1, 101)), api.ErrLong)
	notDecoded(t, "a header alone", "block", sample.HeaderBytes(d.Header()), api.ErrShort)
	notDecoded(t, "nothing", "block", nil, api.ErrShort)
}

// P9.3 and P1: any data are those of the message that they are, or refused.
func TestDecodeOfAnyBytes(t *testing.T) {
	d := sample.Dice(10)
	ok := 0
	for range 20000 {
		kind := 1 + d.Below(10)
		m := everything(&d, kind)
		m.Names, m.Heads = m.Names[:d.Below(4)], m.Heads[:d.Below(3)]
		b := laid(m)
		for range d.Below(3) {
			if len(b) > 0 {
				b[d.Below(min(len(b), 1+d.Below(100)))] = byte(d.Next())
			}
		}
		if d.Below(4) == 0 {
			b = d.Text(d.Below(40))
		}
		got, e := Decode(frame.Frame{Word: theWords[kind], Data: b})
		if e == api.OK {
			ok++
			if got.Kind != kind || !same(got, of(got)) || !bytes.Equal(laid(got), b) {
				t.Fatalf("%x is read as %v", b, got)
			}
		} else if !slices.Contains([]api.Errno{api.ErrShort, api.ErrLong, api.ErrForm}, e) || !reflect.DeepEqual(got, Msg{}) {
			t.Fatalf("%x: %v, %v", b, e, got)
		}
	}
	if ok < 1000 || ok > 19000 {
		t.Errorf("%d of 20000 are messages", ok)
	}
}

// P9.2 and P9.3: what is encoded comes through layer 8 and is decoded again.
func TestThroughFrames(t *testing.T) {
	d := sample.Dice(11)
	var list []Msg
	for kind := 1; kind <= 10; kind++ {
		list = append(list, everything(&d, kind))
	}
	list = append(list, Msg{Kind: Inv, Names: d.IDs(64)}, Msg{Kind: Headers, Heads: d.Headers(32)}, Msg{Kind: Block, Block: full(t, &d, 8192)})
	b, e := All(list...)
	if e != api.OK {
		t.Fatal(e)
	}
	var f frame.Feed
	frames := f.Add(b)
	if len(frames) != len(list) || f.Held() != 0 || f.Err() != api.OK {
		t.Fatalf("%d frames, %d held, %v", len(frames), f.Held(), f.Err())
	}
	for i, m := range list {
		if got, e := Decode(frames[i]); e != api.OK || !same(got, of(m)) {
			t.Errorf("message %d: %v, %v", i, e, got)
		}
	}
}

// P9.4
func TestAll(t *testing.T) {
	d := sample.Dice(12)
	for n := range 12 {
		var list []Msg
		var want []byte
		for range n {
			m := everything(&d, 1+d.Below(10))
			list = append(list, m)
			want = append(want, whole(m)...)
		}
		if got, e := All(list...); e != api.OK || !bytes.Equal(got, want) {
			t.Errorf("All of %d: %v, %d bytes, want %d", n, e, len(got), len(want))
		}
	}
}

// P9.4: the first error is told, and nothing is answered beside it.
func TestAllOfWrongOnes(t *testing.T) {
	d := sample.Dice(13)
	right, none := Msg{Kind: Ping, Nonce: 5}, Msg{Kind: 11}
	long := Msg{Kind: Inv, Names: d.IDs(65)}
	for _, x := range []struct {
		list []Msg
		want api.Errno
	}{
		{[]Msg{none}, api.ErrKind},
		{[]Msg{long}, api.ErrLong},
		{[]Msg{{}}, api.ErrKind},
		{[]Msg{right, none}, api.ErrKind},
		{[]Msg{none, right}, api.ErrKind},
		{[]Msg{right, long, right, none}, api.ErrLong},
		{[]Msg{right, right, none, long}, api.ErrKind},
		{[]Msg{right, right, right, long}, api.ErrLong},
		{[]Msg{{Kind: Block, Block: full(t, &d, 8193)}, none}, api.ErrLong},
	} {
		if got, e := All(x.list...); e != x.want || len(got) != 0 {
			t.Errorf("All of %d: %v, %d bytes, want %v", len(x.list), e, len(got), x.want)
		}
	}
}

func changeMsg(m Msg) {
	sample.Change(m.Names, api.ID{0xee})
	sample.Change(m.Heads, api.Header{Version: 0xee})
	for _, t := range m.Block.Txs {
		sample.ChangeTx(t)
	}
	sample.Change(m.Block.Txs, api.Tx{})
}

// P2: what is handed in isn't changed, nor its spare room.
func TestArgumentsStay(t *testing.T) {
	for kind := 1; kind <= 10; kind++ {
		d, again := sample.Dice(14), sample.Dice(14)
		m, kept := everything(&d, kind), everything(&again, kind)
		m.Names, kept.Names = append(m.Names, d.IDs(5)...), append(kept.Names, again.IDs(5)...)
		m.Heads, kept.Heads = append(m.Heads, d.Headers(5)...), append(kept.Heads, again.Headers(5)...)
		m.Names, m.Heads = m.Names[:3], m.Heads[:2]
		list := []Msg{m, m, {Kind: 77}}
		Encode(m)
		All(list[:2]...)
		m.Names, m.Heads = m.Names[:8], m.Heads[:7]
		if !same(m, kept) || list[2].Kind != 77 || !same(list[0], list[1]) {
			t.Errorf("a %s that was handed in has changed", theWords[kind])
		}
		room := append(laid(of(m)), d.Text(50)...)
		before := slices.Clone(room)
		Decode(frame.Frame{Word: theWords[kind], Data: room[:len(room)-50]})
		if !bytes.Equal(room, before) {
			t.Errorf("the data of a %s have changed", theWords[kind])
		}
	}
}

// P2: what is answered shares nothing with what was handed in, nor with other answers.
func TestAnswersAreNew(t *testing.T) {
	d := sample.Dice(15)
	for kind := 1; kind <= 10; kind++ {
		m := everything(&d, kind)
		want, data := whole(m), laid(m)
		one, _ := Encode(m)
		two, _ := All(m)
		sample.Change(one, 0xee)
		if !bytes.Equal(two, want) {
			t.Errorf("two answers of a %s share something", theWords[kind])
		}
		sample.Change(two, 0xee)
		encoded(t, "what was encoded", m)

		room := slices.Clone(data)
		first, _ := Decode(frame.Frame{Word: theWords[kind], Data: room})
		second, _ := Decode(frame.Frame{Word: theWords[kind], Data: room})
		sample.Change(room, 0xee)
		if !same(first, of(m)) {
			t.Errorf("a %s shares with the data that it was read from", theWords[kind])
		}
		changeMsg(first)
		if !same(second, of(m)) {
			t.Errorf("two of %s share something", theWords[kind])
		}
	}
}
