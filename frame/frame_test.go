package frame

import (
	"bytes"
	"crypto/sha256"
	"encoding/binary"
	"math"
	"slices"
	"strings"
	"testing"

	"tallystick/api"
	"tallystick/sample"
)

// text is n bytes, which are the same in every run.
func text(n int) []byte {
	d := sample.Dice(n + 5)
	return d.Text(n)
}

// sum is the first four bytes of the standard's sum of the sum.
func sum(data []byte) []byte {
	once := sha256.Sum256(data)
	both := sha256.Sum256(once[:])
	return both[:4]
}

// headed is data under a head of any kind.
func headed(field string, length uint32, data []byte) []byte {
	b := append([]byte("YLAT"), field...)
	b = binary.LittleEndian.AppendUint32(b, length)
	return slices.Concat(b, sum(data), data)
}

// field is a word with bytes 0 up to twelve.
func field(word string) string { return word + strings.Repeat("\x00", 12-len(word)) }

func framed(word string, data []byte) []byte { return headed(field(word), uint32(len(data)), data) }

func same(a, b Frame) bool { return a.Word == b.Word && bytes.Equal(a.Data, b.Data) }

// feed hands bytes to a new Feed, in pieces of these lengths, again and again.
func feed(b []byte, pieces ...int) (*Feed, []Frame) {
	var f Feed
	var all []Frame
	for i := 0; len(b) > 0; i++ {
		n := min(pieces[i%len(pieces)], len(b))
		all = append(all, f.Add(b[:n])...)
		b = b[n:]
	}
	return &f, all
}

func wantState(t *testing.T, what string, f *Feed, held int, e api.Errno) {
	t.Helper()
	if f.Held() != held || f.Err() != e {
		t.Errorf("%s: %d held, %v, want %d, %v", what, f.Held(), f.Err(), held, e)
	}
}

func wantFrames(t *testing.T, what string, got []Frame, want ...Frame) {
	t.Helper()
	if !slices.EqualFunc(got, want, same) {
		t.Errorf("%s: %d frames, want %d: %.200q", what, len(got), len(want), got)
	}
}

// P8.1
func TestCheck(t *testing.T) {
	for n := range 40 {
		want := api.ErrForm
		if n >= 1 && n <= 12 {
			want = api.OK
		}
		for _, letter := range []string{"a", "m", "z"} {
			if got := Check(strings.Repeat(letter, n)); got != want {
				t.Errorf("Check of %d letters: %v", n, got)
			}
		}
	}
	for n := 1; n <= 12; n++ {
		for at := range n {
			for x := range 256 {
				word := []byte(strings.Repeat("k", n))
				word[at] = byte(x)
				want := api.ErrForm
				if strings.ContainsRune("abcdefghijklmnopqrstuvwxyz", rune(x)) {
					want = api.OK
				}
				if got := Check(string(word)); got != want {
					t.Errorf("Check of %q: %v", word, got)
				}
			}
		}
	}
	if Check("abcdefghijkl") != api.OK || Check("mnopqrstuvwx") != api.OK || Check("yz") != api.OK {
		t.Error("Check of all letters")
	}
	for _, word := range []string{"", "é", "pïng", "ａ", "\xff", "a\x80", "ping\x00", "ping ", "Ping", "a1", "a-b", "abcdefghijklm", strings.Repeat("a", 1<<20)} {
		if Check(word) != api.ErrForm {
			t.Errorf("Check of %.20q", word)
		}
	}
}

// P8.2
func TestEncode(t *testing.T) {
	if Magic != 1413565529 || Head != 24 || MaxData != 16384 || Room != 16408 {
		t.Error("the limits")
	}
	for _, word := range []string{"a", "z", "ping", "getheaders", "abcdefghijk", "abcdefghijkl"} {
		for _, n := range []int{0, 1, 2, 3, 255, 256, 257, 16383, 16384} {
			got, e := Encode(Frame{word, text(n)})
			if e != api.OK || !bytes.Equal(got, framed(word, text(n))) {
				t.Errorf("Encode of %q with %d bytes: %.60x, %v", word, n, got, e)
			}
		}
	}
	if got, e := Encode(Frame{Word: "verack"}); e != api.OK || !bytes.Equal(got, framed("verack", nil)) {
		t.Errorf("Encode of no data: %x, %v", got, e)
	}
}

// P8.2: the document's example.
func TestEncodeOfTheDocument(t *testing.T) {
	got, _ := Encode(Frame{"ping", []byte("hi")})
	want := slices.Concat([]byte("YLATping\x00\x00\x00\x00\x00\x00\x00\x00\x02\x00\x00\x00"), sum([]byte("hi")), []byte("hi"))
	if len(got) != 26 || !bytes.Equal(got, want) {
		t.Errorf("Encode: %x, want %x", got, want)
	}
}

// P8.2: that the word is none is told first.
func TestNotEncoded(t *testing.T) {
	for _, n := range []int{16385, 16386, 1 << 15, 1 << 20} {
		if got, e := Encode(Frame{"ping", make([]byte, n)}); e != api.ErrLong || got != nil {
			t.Errorf("Encode of %d bytes: %d, %v", n, len(got), e)
		}
	}
	for _, word := range []string{"", "Ping", "a b", "ping\x00", "abcdefghijklm", "é"} {
		for _, n := range []int{0, 2, 16384, 16385} {
			if got, e := Encode(Frame{word, make([]byte, n)}); e != api.ErrForm || got != nil {
				t.Errorf("Encode of %q with %d bytes: %x, %v", word, n, got, e)
			}
		}
	}
}

// P8.3: a zero Feed has nothing, and nothing comes of nothing.
func TestFeedOfNothing(t *testing.T) {
	var f Feed
	wantState(t, "a zero one", &f, 0, api.OK)
	wantFrames(t, "nil", f.Add(nil))
	wantFrames(t, "no bytes", f.Add([]byte{}))
	wantState(t, "behind nothing", &f, 0, api.OK)
	wantFrames(t, "three bytes", f.Add([]byte("YLA")))
	wantFrames(t, "nil behind three", f.Add(nil))
	wantState(t, "behind three bytes", &f, 3, api.OK)
}

// P8.3
func TestFramesInPieces(t *testing.T) {
	list := []Frame{{"a", nil}, {"ping", []byte("hi")}, {"abcdefghijkl", text(1)}, {"verack", nil}, {"verack", nil}, {"block", text(300)}, {"z", []byte{0}}}
	var row []byte
	for _, x := range list {
		row = append(row, framed(x.Word, x.Data)...)
	}
	rest := framed("inv", text(40))[:50]
	row = append(row, rest...)
	for _, pieces := range [][]int{{1}, {2}, {3}, {4}, {5}, {7}, {20}, {23}, {24}, {25}, {26}, {100}, {len(row)}, {1, 0, 50}, {24, 2}, {0, 3, 1}, {300, 1}} {
		f, got := feed(row, pieces...)
		wantFrames(t, "pieces", got, list...)
		wantState(t, "behind them", f, 50, api.OK)
		wantFrames(t, "the rest of the last one", f.Add(framed("inv", text(40))[50:]), Frame{"inv", text(40)})
		wantState(t, "behind it", f, 0, api.OK)
	}
	for cut := range row {
		f, got := feed(row, cut+1, len(row))
		wantFrames(t, "two pieces", got, list...)
		wantState(t, "behind two pieces", f, 50, api.OK)
	}
}

// P8.3: with just which byte a frame is whole, and how many are held ahead of it.
func TestHeld(t *testing.T) {
	var f Feed
	for _, n := range []int{0, 1, 2, 30} {
		b := framed("ping", text(n))
		for i, x := range b {
			got := f.Add([]byte{x})
			if i < len(b)-1 {
				wantFrames(t, "a part", got)
				wantState(t, "a part", &f, i+1, api.OK)
			} else {
				wantFrames(t, "the whole", got, Frame{"ping", text(n)})
				wantState(t, "the whole", &f, 0, api.OK)
			}
		}
	}
}

// P8.3: the longest that may be, and that never more than Room is held.
func TestMostData(t *testing.T) {
	b := framed("block", text(MaxData))
	two := slices.Concat(b, b)
	for _, pieces := range [][]int{{1}, {1000}, {16407, 1}, {16407, 2}, {16408}, {16409}, {len(two)}} {
		var f Feed
		made := 0
		for i, rest := 0, two; len(rest) > 0; i++ {
			n := min(pieces[i%len(pieces)], len(rest))
			for _, x := range f.Add(rest[:n]) {
				made++
				if !same(x, Frame{"block", text(MaxData)}) {
					t.Fatal("another frame is made")
				}
			}
			rest = rest[n:]
			if held := (len(two) - len(rest)) % len(b); f.Held() != held || f.Held() > 16408 || f.Err() != api.OK {
				t.Fatalf("%d held, %v, want %d", f.Held(), f.Err(), held)
			}
		}
		if made != 2 {
			t.Errorf("%d frames", made)
		}
	}
}

// wantFault asks, piece by piece, whether the byte with this number is the first with which the error is told, and whether nothing comes behind it.
func wantFault(t *testing.T, what string, b []byte, at int, want api.Errno) {
	t.Helper()
	ahead := Frame{"ping", []byte("hi")}
	row := slices.Concat(framed("ping", []byte("hi")), b)
	for _, pieces := range [][]int{{1}, {26, 1}, {5}, {len(row)}} {
		f, got := feed(row, pieces...)
		wantFrames(t, what, got, ahead)
		wantState(t, what, f, 0, want)
	}
	f, _ := feed(row[:26], 26)
	for i := range at {
		wantFrames(t, what, f.Add(b[i:i+1]))
		if i < at-1 {
			wantState(t, what+", ahead of the fault", f, i+1, api.OK)
		}
	}
	wantState(t, what, f, 0, want)
	for _, more := range [][]byte{nil, b[at:], framed("ping", []byte("hi")), []byte("YLAT"), make([]byte, 50000)} {
		wantFrames(t, what+", behind the fault", f.Add(more))
		wantState(t, what+", behind the fault", f, 0, want)
	}
	var g Feed
	wantFrames(t, what+", all but the last byte", g.Add(b[:at-1]))
	wantState(t, what+", all but the last byte", &g, at-1, api.OK)
}

// P8.3
func TestMagic(t *testing.T) {
	good := framed("ping", []byte("hi"))
	for at := range 4 {
		for _, x := range []byte{0, 1, 0x20, 0x80} {
			b := slices.Clone(good)
			b[at] ^= x
			if x != 0 {
				wantFault(t, "another magic", b, 4, api.ErrMagic)
			}
		}
	}
	wantFault(t, "the magic the other way round", append([]byte("TALY"), good[4:]...), 4, api.ErrMagic)
	wantFault(t, "nothing but bytes 0", make([]byte, 100), 4, api.ErrMagic)
	wantFault(t, "nothing but bytes 255", slices.Repeat([]byte{255}, 100), 4, api.ErrMagic)
}

// P8.3: ErrForm is told ahead of ErrLong, and not ahead of the 24th byte.
func TestFieldOfWord(t *testing.T) {
	for _, wrong := range []string{
		strings.Repeat("\x00", 12), "\x00ping\x00\x00\x00\x00\x00\x00\x00", "Ping\x00\x00\x00\x00\x00\x00\x00\x00", "ping\x00\x00\x00\x00\x00\x00\x00\x01",
		"ping\x00a\x00\x00\x00\x00\x00\x00", "ping\x00ping\x00\x00\x00", "ping ping\x00\x00\x00", "pi\xc3\xa9\x00\x00\x00\x00\x00\x00\x00\x00", "abcdefghijk\xff",
		"abcdefghijkL", "abcdefghij\x00a", "\x00\x00\x00\x00\x00\x00\x00\x00\x00\x00\x00a", "ping\xff\x00\x00\x00\x00\x00\x00\x00", "123456789012", "            ",
	} {
		for _, length := range []uint32{0, 2, 16384, 16385, math.MaxUint32} {
			wantFault(t, "a field that is no word", headed(wrong, length, []byte("hi")), 24, api.ErrForm)
		}
	}
	for n := 1; n <= 12; n++ {
		word := "abcdefghijkl"[:n]
		_, got := feed(framed(word, []byte("hi")), 100)
		wantFrames(t, "a word", got, Frame{word, []byte("hi")})
		for at := range 12 {
			for _, x := range []byte{0, 1, 'A', '`', '{', 0x80, 255} {
				b := []byte(field(word))
				b[at] = x
				if x != 0 || at < n-1 || n == 1 && at == 0 {
					wantFault(t, "a wrong byte in a word", headed(string(b), 2, []byte("hi")), 24, api.ErrForm)
				}
			}
			if at > n {
				b := []byte(field(word))
				b[at] = 'k'
				wantFault(t, "a letter behind a word", headed(string(b), 2, []byte("hi")), 24, api.ErrForm)
			}
		}
	}
}

// P8.3
func TestLength(t *testing.T) {
	for _, length := range []uint32{16385, 16386, 1 << 15, 1<<15 + 2, 1 << 16, 1<<16 + 2, 1<<24 + 2, 1<<31 - 1, 1 << 31, 1<<31 + 2, math.MaxUint32 - 23, math.MaxUint32} {
		wantFault(t, "too great a length", headed(field("ping"), length, []byte("hi")), 24, api.ErrLong)
		wantFault(t, "too great a length", headed(field("ping"), length, text(17000)), 24, api.ErrLong)
	}
	f, got := feed(headed(field("ping"), 16384, nil), 100)
	wantFrames(t, "16384 bytes that aren't there", got)
	wantState(t, "16384 bytes that aren't there", f, 24, api.OK)
}

// P8.3: with the last byte, and not ahead of it.
func TestSum(t *testing.T) {
	for _, n := range []int{0, 1, 2, 40} {
		good := framed("ping", text(n))
		for at := 20; at < len(good); at++ {
			for _, x := range []byte{1, 0x10, 0x80, 0xff} {
				b := slices.Clone(good)
				b[at] ^= x
				wantFault(t, "another sum", append(b, 7), len(good), api.ErrSum)
			}
		}
	}
	once := sha256.Sum256([]byte("hi"))
	b := framed("ping", []byte("hi"))
	copy(b[20:24], once[:4])
	wantFault(t, "the sum of the data alone", append(b, 7), 26, api.ErrSum)
	whole := framed("block", text(MaxData))
	whole[len(whole)-1]++
	wantFault(t, "the sum of most data", append(whole, 7), 16408, api.ErrSum)
}

// P8.2 and P8.3: what is laid is made of it again.
func TestEncodedIsMade(t *testing.T) {
	d := sample.Dice(3)
	for range 200 {
		var list []Frame
		var row []byte
		for range d.Below(6) {
			word := make([]byte, 1+d.Below(12))
			for i := range word {
				word[i] = byte('a' + d.Below(26))
			}
			x := Frame{string(word), text(d.Below(100))}
			b, e := Encode(x)
			if e != api.OK {
				t.Fatalf("Encode of %q: %v", word, e)
			}
			list, row = append(list, x), append(row, b...)
		}
		f, got := feed(row, 1+d.Below(60), d.Below(60))
		wantFrames(t, "what is laid", got, list...)
		wantState(t, "what is laid", f, 0, api.OK)
	}
}

// read is what a row of bytes comes to, looked at as a whole.
func read(b []byte) (list []Frame, held int, e api.Errno) {
	for {
		if len(b) >= 4 && string(b[:4]) != "YLAT" {
			return list, 0, api.ErrMagic
		}
		if len(b) < 24 {
			return list, len(b), api.OK
		}
		word := strings.TrimRight(string(b[4:16]), "\x00")
		if word == "" || strings.Trim(word, "abcdefghijklmnopqrstuvwxyz") != "" {
			return list, 0, api.ErrForm
		}
		n := binary.LittleEndian.Uint32(b[16:])
		if n > 16384 {
			return list, 0, api.ErrLong
		}
		if len(b) < 24+int(n) {
			return list, len(b), api.OK
		}
		data := b[24 : 24+n]
		if !bytes.Equal(sum(data), b[20:24]) {
			return list, 0, api.ErrSum
		}
		list, b = append(list, Frame{word, data}), b[24+n:]
	}
}

// P8.3 and P1: any bytes, in any pieces.
func TestAnyBytes(t *testing.T) {
	d := sample.Dice(4)
	seen := map[api.Errno]int{}
	for range 4000 {
		var row []byte
		for range 1 + d.Below(4) {
			row = append(row, framed([]string{"a", "ping", "abcdefghijkl"}[d.Below(3)], text(d.Below(30)))...)
		}
		for range d.Below(3) {
			row[d.Below(len(row))] ^= 1 << d.Below(8)
		}
		row = row[:len(row)-d.Below(2)*d.Below(len(row))]
		want, held, e := read(row)
		seen[e]++
		f, got := feed(row, 1+d.Below(40), d.Below(40), d.Below(10))
		if !slices.EqualFunc(got, want, same) || f.Held() != held || f.Err() != e {
			t.Fatalf("%x: %q, %d held, %v, want %q, %d, %v", row, got, f.Held(), f.Err(), want, held, e)
		}
	}
	for _, e := range []api.Errno{api.OK, api.ErrMagic, api.ErrForm, api.ErrLong, api.ErrSum} {
		if seen[e] < 20 {
			t.Errorf("the samples have too little of %v: %v", e, seen)
		}
	}
}

// P8.3: each Feed has its own bytes.
func TestFeedsApart(t *testing.T) {
	b := framed("ping", []byte("hi"))
	var f, g Feed
	f.Add(b[:25])
	wantState(t, "the other one", &g, 0, api.OK)
	g.Add([]byte("nope"))
	wantFrames(t, "the first one", f.Add(b[25:]), Frame{"ping", []byte("hi")})
	wantState(t, "the first one", &f, 0, api.OK)
	wantState(t, "the other one", &g, 0, api.ErrMagic)
}

func fill(b []byte) {
	wide := b[:cap(b)]
	for i := range wide {
		wide[i] = 0xee
	}
}

// P2: what is laid shares nothing with the data, nor with other answers.
func TestEncodeMemory(t *testing.T) {
	room := text(50)
	before := slices.Clone(room)
	x := Frame{"ping", room[:20]}
	first, _ := Encode(x)
	second, _ := Encode(x)
	if !bytes.Equal(room, before) {
		t.Error("the data that were handed in have changed")
	}
	fill(first)
	if !bytes.Equal(room, before) || !bytes.Equal(second, framed("ping", before[:20])) {
		t.Error("an answer is somebody else's")
	}
	fill(room)
	if !bytes.Equal(second, framed("ping", before[:20])) {
		t.Error("an answer shares with its data")
	}
}

// P2: bytes that come are neither changed nor kept, and frames share with nobody.
func TestFeedMemory(t *testing.T) {
	row := slices.Concat(framed("ping", text(20)), framed("pong", text(30)), framed("inv", text(40)))
	row = append(row, text(10)...)
	for _, cut := range []int{0, 3, 10, 30, 44, 50, 80, 98, 120} {
		room := slices.Clone(row)
		var f Feed
		got := f.Add(room[:cut])
		if !bytes.Equal(room, row) {
			t.Error("bytes that were handed in have changed")
		}
		fill(room)
		for i := range got {
			got[i].Data = append(got[i].Data, 0xee)
			fill(got[i].Data)
			got[i].Word = "other"
		}
		_ = append(got, Frame{"other", nil})
		more := f.Add(slices.Clone(row[cut : len(row)-10]))
		want, _, _ := read(row[:len(row)-10])
		wantFrames(t, "behind a cut", more, want[len(got):]...)
		for i := range more {
			kept := slices.Clone(more)
			_ = append(more[i].Data, 0xee, 0xee, 0xee, 0xee)
			fill(more[i].Data)
			if i+1 < len(more) {
				wantFrames(t, "frames behind one that is changed", kept[i+1:], want[len(got)+i+1:]...)
			}
		}
		wantState(t, "behind all", &f, 0, api.OK)
		wantFrames(t, "another one", f.Add(framed("a", nil)), Frame{"a", nil})
	}
}
