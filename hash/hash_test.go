package hash

import (
	"bytes"
	"crypto/sha256"
	"encoding/hex"
	"strings"
	"testing"

	"tallystick/api"
)

// text is n bytes of which no two blocks are the same.
func text(n int) []byte {
	b := make([]byte, n)
	x := uint32(n) + 1
	for i := range b {
		x = x*1664525 + 1013904223
		b[i] = byte(x >> 24)
	}
	return b
}

func ask(t *testing.T, what string, got, want api.ID) {
	t.Helper()
	if got != want {
		t.Errorf("%s: %x, want %x", what, got, want)
	}
}

func id(t *testing.T, s string) api.ID {
	t.Helper()
	b, err := hex.DecodeString(s)
	if err != nil || len(b) != 32 {
		t.Fatalf("%q is no sum", s)
	}
	return api.ID(b)
}

// The standard's own examples, and those of the document.
func TestSumOfKnownTexts(t *testing.T) {
	for text, want := range map[string]string{
		"":    "e3b0c44298fc1c149afbf4c8996fb92427ae41e4649b934ca495991b7852b855",
		"abc": "ba7816bf8f01cfea414140de5dae2223b00361a396177a9cb410ff61f20015ad",
		"abcdbcdecdefdefgefghfghighijhijkijkljklmklmnlmnomnopnopq":                                                         "248d6a61d20638b8e5c026930c3e6039a33ce45964ff2167f6ecedd419db06c1",
		"abcdefghbcdefghicdefghijdefghijkefghijklfghijklmghijklmnhijklmnoijklmnopjklmnopqklmnopqrlmnopqrsmnopqrstnopqrstu": "cf5b16a778af8380036ce59e7b0492370b249b11e8f07a51afac45037afee9d1",
		strings.Repeat("a", 1000000): "cdc76e5c9914fb9281a1c7e284d73e67f1809a48a497200e046d39ccc7112cd0",
	} {
		ask(t, "Sum of "+text[:min(len(text), 40)], Sum([]byte(text)), id(t, want))
	}
}

// Each length around several blocks' ends: there the last block's form changes.
func TestSumOfAllLengths(t *testing.T) {
	for n := range 400 {
		b := text(n)
		ask(t, "Sum", Sum(b), sha256.Sum256(b))
	}
	for _, n := range []int{4095, 4096, 4151, 4152, 1 << 16, 1<<20 + 7} {
		b := text(n)
		ask(t, "Sum of many", Sum(b), sha256.Sum256(b))
	}
}

// So many bytes that their bits need more than 32.
func TestSumOfVeryMany(t *testing.T) {
	if testing.Short() {
		t.Skip("half a gigabyte")
	}
	part := text(1 << 20)
	parts := make([][]byte, 513)
	other := sha256.New()
	for i := range parts {
		parts[i] = part
		other.Write(part)
	}
	ask(t, "Sum", Sum(parts...), api.ID(other.Sum(nil)))
}

func TestSumOfParts(t *testing.T) {
	b := text(200)
	want := api.ID(sha256.Sum256(b))
	for i := range len(b) + 1 {
		ask(t, "two parts", Sum(b[:i], b[i:]), want)
		ask(t, "three parts", Sum(b[:i/2], b[i/2:i], b[i:]), want)
	}
	var single [][]byte
	for i := range b {
		single = append(single, nil, b[i:i+1], []byte{})
	}
	ask(t, "single bytes", Sum(single...), want)
	if Sum(b[:64], b[64:128]) == Sum(b[64:128], b[:64]) {
		t.Error("the order of the parts must count")
	}
}

func TestSumOfNothing(t *testing.T) {
	want := api.ID(sha256.Sum256(nil))
	ask(t, "no part", Sum(), want)
	ask(t, "a nil list", Sum([][]byte(nil)...), want)
	ask(t, "a nil part", Sum(nil), want)
	ask(t, "empty parts", Sum(nil, []byte{}, nil), want)
}

func TestTwice(t *testing.T) {
	ask(t, "hello", Twice([]byte("hello")), id(t, "9595c9df90075148eb06860365df33584b75bff782a510c6cd4883a419833d50"))
	ask(t, "nothing", Twice(), id(t, "5df6e0e2761359d30a8275058e299fcc0381534545f55cf43e41983f5d4c9456"))
	for n := range 200 {
		b := text(n)
		once := sha256.Sum256(b)
		want := api.ID(sha256.Sum256(once[:]))
		ask(t, "Twice", Twice(b), want)
		ask(t, "Twice of parts", Twice(b[:n/3], nil, b[n/3:]), want)
	}
}

// P2: what is handed in isn't changed, its spare room neither, and an answer hangs on the arguments alone.
func TestPartsStayAsTheyAre(t *testing.T) {
	room := text(300)
	before := bytes.Clone(room)
	parts := make([][]byte, 3, 8)
	parts[0], parts[1], parts[2] = room[:10], room[100:163], room[200:264]
	for _, call := range []func(...[]byte) api.ID{Sum, Twice} {
		first := call(parts...)
		kept := first
		call(room)
		if call(parts...) != first || first != kept {
			t.Error("the same parts have another sum")
		}
	}
	if !bytes.Equal(room, before) {
		t.Error("the bytes have changed")
	}
	for i, p := range parts[:cap(parts)] {
		if i < 3 && (&p[0] != &room[100*i] || len(p) != []int{10, 63, 64}[i]) || i >= 3 && p != nil {
			t.Errorf("part %d of the list has changed", i)
		}
	}
}
