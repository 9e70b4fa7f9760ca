package head

import (
	"bytes"
	"crypto/sha256"
	"encoding/binary"
	"math"
	"math/big"
	"slices"
	"testing"

	"tallystick/api"
)

const (
	easy = 0x207fffff // about every second header is proved
	hard = 0x1f00ffff // one in 65536
)

// sample makes headers of which no two are the same, all fields filled.
func sample(seed uint32) api.Header {
	x := seed*2654435761 + 1
	next := func() uint32 {
		x = x*1664525 + 1013904223
		return x ^ x>>15
	}
	h := api.Header{Version: next(), Time: next(), Bits: next(), Nonce: next()}
	for i := range h.Prev {
		h.Prev[i], h.Root[i] = byte(next()), byte(next())
	}
	return h
}

func laid(h api.Header) []byte {
	var b []byte
	b = binary.LittleEndian.AppendUint32(b, h.Version)
	b = append(b, h.Prev[:]...)
	b = append(b, h.Root[:]...)
	b = binary.LittleEndian.AppendUint32(b, h.Time)
	b = binary.LittleEndian.AppendUint32(b, h.Bits)
	return binary.LittleEndian.AppendUint32(b, h.Nonce)
}

func named(h api.Header) api.ID {
	once := sha256.Sum256(laid(h))
	return sha256.Sum256(once[:])
}

// target is what bits mean, in numbers without an end; nil: they mean none.
func target(b uint32) *big.Int {
	word, size := int64(b&0xffffff), int(b>>24)-3
	n := new(big.Int).Lsh(big.NewInt(word), uint(8*max(size, 0)))
	n.Rsh(n, uint(8*max(-size, 0)))
	if word >= 1<<23 || n.Sign() == 0 || n.BitLen() > 256 {
		return nil
	}
	return n
}

func wantProved(h api.Header, limit uint32) api.Errno {
	own, most := target(h.Bits), target(limit)
	if own == nil || most == nil || own.Cmp(most) > 0 {
		return api.ErrBits
	}
	id := named(h)
	slices.Reverse(id[:])
	if new(big.Int).SetBytes(id[:]).Cmp(own) > 0 {
		return api.ErrProof
	}
	return api.OK
}

// P5.1
func TestBytesInTheirOrder(t *testing.T) {
	h := api.Header{Version: 0x04030201, Time: 0x08070605, Bits: 0x0c0b0a09, Nonce: 0x100f0e0d}
	for i := range h.Prev {
		h.Prev[i], h.Root[i] = byte(0x40+i), byte(0x80+i)
	}
	b := Bytes(h)
	if Size != 80 || len(b) != 80 {
		t.Fatalf("%d bytes", len(b))
	}
	for i, x := range b {
		want := byte(i + 1) // of the version
		switch {
		case i >= 68:
			want = byte(i - 68 + 5)
		case i >= 36:
			want = byte(0x80 + i - 36)
		case i >= 4:
			want = byte(0x40 + i - 4)
		}
		if x != want {
			t.Errorf("byte %d is %x, want %x", i, x, want)
		}
	}
}

// P5.1
func TestBytesAndBack(t *testing.T) {
	list := []api.Header{{}, {Version: math.MaxUint32, Time: math.MaxUint32, Bits: math.MaxUint32, Nonce: math.MaxUint32}, {Nonce: 1 << 31}}
	for seed := range uint32(200) {
		list = append(list, sample(seed))
	}
	for _, h := range list {
		b := Bytes(h)
		if !bytes.Equal(b, laid(h)) {
			t.Errorf("Bytes of %v: %x", h, b)
		}
		if back, e := Read(b); e != api.OK || back != h {
			t.Errorf("Read of %x: %v, %v", b, back, e)
		}
	}
}

// P5.1: any 80 bytes are a header's; others are none.
func TestReadOfAnyBytes(t *testing.T) {
	for n := range 300 {
		b := bytes.Repeat([]byte{byte(n), 0xff, byte(7 * n)}, 100)[:n]
		h, e := Read(b)
		if n == 80 {
			if e != api.OK || !bytes.Equal(laid(h), b) {
				t.Errorf("Read of 80 bytes: %v, %v", h, e)
			}
		} else if e != api.ErrShort || h != (api.Header{}) {
			t.Errorf("Read of %d bytes: %v, %v", n, h, e)
		}
	}
	if h, e := Read(nil); e != api.ErrShort || h != (api.Header{}) {
		t.Errorf("Read of nil: %v, %v", h, e)
	}
	if h, e := Read(make([]byte, 79, 80)); e != api.ErrShort || h != (api.Header{}) {
		t.Errorf("Read of 79 bytes with room for one more: %v, %v", h, e)
	}
}

// P5.2
func TestID(t *testing.T) {
	for seed := range uint32(200) {
		h := sample(seed)
		if ID(h) != named(h) {
			t.Errorf("ID of %v: %x", h, ID(h))
		}
	}
	if ID(api.Header{}) != named(api.Header{}) {
		t.Error("ID of the zero header")
	}
	h := sample(1)
	other := h
	other.Nonce++
	if ID(h) == ID(other) {
		t.Error("the nonce must count")
	}
}

// P5.3: what the bits may be.
func TestProvedOfBits(t *testing.T) {
	for _, x := range []struct {
		bits, limit uint32
		refused     bool
	}{
		{easy, easy, false},
		{0x207ffffe, easy, false},
		{0x1f7fffff, easy, false},
		{easy, 0x207ffffe, true},
		{easy, 0x1f7fffff, true},
		{easy, 0x21007fff, true},
		{0x21007fff, easy, false},
		{0x20123400, 0x21001234, false}, // two forms of one target
		{0x21001234, 0x20123400, false},
		{0x20123401, 0x21001234, true},
		{0, easy, true},
		{easy, 0, true},
		{0, 0, true},
		{0x20800000, easy, true},
		{easy, 0x20ffffff, true},
		{0x23000100, easy, true},
		{easy, 0x23000100, true},
		{0x22000100, 0x22000100, true},
		{0x22000080, 0x22000080, false},
		{0x2100ffff, easy, true},
		{easy, 0x2100ffff, false},
		{easy, 0xff123456, true},
		{0x01003456, easy, true},
		{easy, 0x01003456, true},
		{0x01010000, 0x01010000, false},
		{0x02000100, 0x01010000, false},
		{0x02000200, 0x01010000, true},
		{math.MaxUint32, math.MaxUint32, true},
	} {
		seen := map[api.Errno]int{}
		for seed := range uint32(40) {
			h := sample(seed)
			h.Bits = x.bits
			got := Proved(h, x.limit)
			seen[got]++
			if want := wantProved(h, x.limit); got != want {
				t.Errorf("Proved of bits %x by %x: %v, want %v", x.bits, x.limit, got, want)
			}
		}
		if (seen[api.ErrBits] > 0) != x.refused {
			t.Errorf("bits %x by %x: %v", x.bits, x.limit, seen)
		}
	}
}

// P5.3: the ID is a number, its lowest byte first.
func TestProvedOfWork(t *testing.T) {
	seen := map[api.Errno]int{}
	for _, b := range []uint32{easy, 0x203fffff, 0x20010000, 0x2000ffff, 0x1f7fffff, 0x2100ff00, 0x2100ffff} {
		for seed := range uint32(600) {
			h := sample(seed)
			h.Bits = b
			got := Proved(h, 0x2100ffff)
			seen[got]++
			if want := wantProved(h, 0x2100ffff); got != want {
				t.Errorf("Proved of %v: %v, want %v", h, got, want)
			}
		}
	}
	if seen[api.OK] < 500 || seen[api.ErrProof] < 500 || len(seen) != 2 {
		t.Errorf("the samples have too little of something: %v", seen)
	}
}

// P5.4
func TestMineFirst(t *testing.T) {
	for seed := range uint32(60) {
		h := sample(seed)
		h.Bits = 0x201fffff // one in eight
		first := 0
		want := h
		for wantProved(want, easy) != api.OK {
			want.Nonce++
			first++
		}
		for _, tries := range []int{first + 1, first + 2, first + 100, 1 << 16, 1<<16 + 1, 1 << 40, math.MaxInt} {
			if got, ok := Mine(h, easy, tries); !ok || got != want {
				t.Errorf("Mine of %v in %d tries: %v, %v", h, tries, got, ok)
			}
		}
		for _, tries := range []int{first, first - 1, 0, -1, -1 << 16, -1 << 40, math.MinInt} {
			if got, ok := Mine(h, easy, tries); ok || got != (api.Header{}) {
				t.Errorf("Mine of %v in %d tries: %v, %v", h, tries, got, ok)
			}
		}
	}
}

// P5.4: behind the greatest nonce stands 0.
func TestMineRound(t *testing.T) {
	rounds := 0
	for seed := range uint32(40) {
		h := sample(seed)
		h.Bits, h.Nonce = 0x201fffff, math.MaxUint32-1
		want := h
		for wantProved(want, easy) != api.OK {
			want.Nonce++
		}
		if want.Nonce < h.Nonce {
			rounds++
		}
		if got, ok := Mine(h, easy, 1000); !ok || got != want {
			t.Errorf("Mine of %v: %v, %v", h, got, ok)
		}
	}
	if rounds == 0 {
		t.Error("no sample goes round")
	}
}

// P5.4: of this header none from 20069 on is proved but 188927.
func TestMineAtMost65536(t *testing.T) {
	h := api.Header{Version: 1, Time: 1700000000, Bits: hard, Nonce: 188927}
	if wantProved(h, easy) != api.OK {
		t.Fatal("the sample isn't proved")
	}
	want := h
	h.Nonce = want.Nonce - 65535
	for _, tries := range []int{1 << 16, 1<<16 + 1, math.MaxInt} {
		if got, ok := Mine(h, easy, tries); !ok || got != want {
			t.Errorf("Mine, the last of %d tries: %v, %v", tries, got, ok)
		}
	}
	if got, ok := Mine(h, easy, 1<<16-1); ok || got != (api.Header{}) {
		t.Errorf("Mine, one try too few: %v, %v", got, ok)
	}
	h.Nonce--
	for _, tries := range []int{1 << 16, 1<<16 + 1, 1<<17 + 5, math.MaxInt} {
		if got, ok := Mine(h, easy, tries); ok || got != (api.Header{}) {
			t.Errorf("Mine, one beyond 2^16 of %d tries: %v, %v", tries, got, ok)
		}
	}
}

// P5.4: bits that no limit allows are never proved.
func TestMineOfWrongBits(t *testing.T) {
	for _, x := range [][2]uint32{{0, easy}, {easy, 0}, {easy, 0x1f7fffff}, {0x20800000, easy}, {math.MaxUint32, math.MaxUint32}} {
		h := sample(3)
		h.Bits = x[0]
		if got, ok := Mine(h, x[1], math.MaxInt); ok || got != (api.Header{}) {
			t.Errorf("Mine with bits %x by %x: %v, %v", x[0], x[1], got, ok)
		}
	}
}

// P1: at all bits and limits.
func TestAnyBitsEnd(t *testing.T) {
	for size := range uint32(256) {
		for _, word := range []uint32{0, 1, 0xff, 0x8000, 0x7fffff, 0x800000, 0xffffff} {
			h := sample(size)
			h.Bits = size<<24 | word
			for _, limit := range []uint32{easy, h.Bits, h.Nonce} {
				if got, want := Proved(h, limit), wantProved(h, limit); got != want {
					t.Errorf("Proved of bits %x by %x: %v, want %v", h.Bits, limit, got, want)
				}
				Mine(h, limit, 3)
			}
		}
	}
}

// P2: bytes that are read stay as they are, and those that are answered are nobody else's.
func TestMemory(t *testing.T) {
	h := sample(9)
	room := append(Bytes(h), 1, 2, 3)
	before := bytes.Clone(room)
	first, _ := Read(room[:Size])
	if !bytes.Equal(room, before) {
		t.Error("Read has changed its bytes")
	}
	room[4], room[40] = room[4]+1, room[40]+1
	if first != h {
		t.Error("a header that was read shares its bytes")
	}
	a, b := Bytes(h), Bytes(h)
	wide := a[:cap(a)]
	for i := range wide {
		wide[i] = 0xee
	}
	if !bytes.Equal(b, laid(h)) || !bytes.Equal(Bytes(h), laid(h)) {
		t.Error("two answers of Bytes share their memory")
	}
}
