package num

import (
	"math"
	"math/big"
	"slices"
	"testing"

	"tallystick/api"
)

const top = math.MaxUint64

var (
	all    = Num{top, top, top, top}
	beyond = new(big.Int).Lsh(big.NewInt(1), 256)
)

func wide(a Num) *big.Int {
	n := new(big.Int)
	for _, w := range slices.Backward(a[:]) {
		n.Lsh(n, 64).Or(n, new(big.Int).SetUint64(w))
	}
	return n
}

// narrow is a number modulo 2^256.
func narrow(n *big.Int) Num {
	rest := new(big.Int).Mod(n, beyond)
	var a Num
	for i := range a {
		a[i] = new(big.Int).Rsh(rest, uint(64*i)).Uint64() // the lowest 64 bits
	}
	return a
}

// numbers are the edges, each bit's neighbours, and some that are of no form.
func numbers() []Num {
	list := []Num{{}, all, {1, 1, 1, 1}, {0, top, 0, top}, {top, 0, top, 0}, {9, 0, 0, 1}, {0, 0, 0, 2}, {10}, {17}, {5}, {3}}
	for _, n := range []uint{0, 1, 7, 8, 31, 32, 63, 64, 65, 127, 128, 129, 191, 192, 193, 254, 255} {
		power := new(big.Int).Lsh(big.NewInt(1), n)
		list = append(list, narrow(power), narrow(new(big.Int).Sub(power, big.NewInt(1))), narrow(new(big.Int).Add(power, big.NewInt(1))))
	}
	x := uint64(1)
	for i := range 24 {
		var a Num
		for j := range 1 + i%4 {
			x = x*6364136223846793005 + 1442695040888963407
			a[j] = x ^ x>>29
		}
		list = append(list, a)
	}
	return list
}

// P2.1

func TestOf(t *testing.T) {
	for _, n := range []uint64{0, 1, 255, 1 << 32, 1 << 63, top} {
		if Of(n) != (Num{n, 0, 0, 0}) {
			t.Errorf("Of(%d): %v", n, Of(n))
		}
	}
}

func TestCmp(t *testing.T) {
	for _, a := range numbers() {
		for _, b := range numbers() {
			want := wide(a).Cmp(wide(b))
			if got := Cmp(a, b); got < 0 != (want < 0) || got > 0 != (want > 0) {
				t.Errorf("Cmp(%v, %v): %d, want %d", a, b, got, want)
			}
		}
	}
}

func TestZero(t *testing.T) {
	for _, a := range numbers() {
		if a.Zero() != (wide(a).Sign() == 0) {
			t.Errorf("Zero of %v: %v", a, a.Zero())
		}
	}
}

// P2.2

func TestAddTwo(t *testing.T) {
	for _, a := range numbers() {
		for _, b := range numbers() {
			sum := new(big.Int).Add(wide(a), wide(b))
			got, over := Add(a, b)
			if got != narrow(sum) || over != (sum.Cmp(beyond) >= 0) {
				t.Errorf("Add(%v, %v): %v %v", a, b, got, over)
			}
		}
	}
}

func TestAddMany(t *testing.T) {
	half := Num{0, 0, 0, 1 << 63}
	for _, c := range []struct {
		list []Num
		sum  Num
		over bool
	}{
		{nil, Num{}, false},
		{[]Num{}, Num{}, false},
		{[]Num{all}, all, false},
		{[]Num{{7}, {}, {8}, {0, 1}}, Num{15, 1}, false},
		{[]Num{{top}, {1}, {top, top}, {1}}, Num{0, 1, 1}, false},
		{[]Num{all, {1}, {5}}, Num{5}, true}, // a later sum fits again
		{[]Num{{5}, all, {}}, Num{4}, true},
		{[]Num{half, half, half, half}, Num{}, true},
		{[]Num{half, {3}, half}, Num{3}, true},
	} {
		if sum, over := Add(c.list...); sum != c.sum || over != c.over {
			t.Errorf("Add(%v): %v %v", c.list, sum, over)
		}
	}
}

func TestSub(t *testing.T) {
	for _, a := range numbers() {
		for _, b := range numbers() {
			got, under := Sub(a, b)
			if got != narrow(new(big.Int).Sub(wide(a), wide(b))) || under != (wide(a).Cmp(wide(b)) < 0) {
				t.Errorf("Sub(%v, %v): %v %v", a, b, got, under)
			}
		}
	}
}

func TestNot(t *testing.T) {
	for _, a := range numbers() {
		if Not(a) != narrow(new(big.Int).Sub(wide(all), wide(a))) {
			t.Errorf("Not(%v): %v", a, Not(a))
		}
	}
}

// P2.3

func TestMul(t *testing.T) {
	for _, a := range numbers() {
		for _, n := range []uint64{0, 1, 2, 3, 10, 255, 1 << 32, 1<<32 - 1, 1 << 63, 1<<63 + 1, top - 1, top, 0x9e3779b97f4a7c15} {
			product := new(big.Int).Mul(wide(a), new(big.Int).SetUint64(n))
			got, over := Mul(a, n)
			if got != narrow(product) || over != (product.Cmp(beyond) >= 0) {
				t.Errorf("Mul(%v, %d): %v %v", a, n, got, over)
			}
		}
	}
}

func TestDiv(t *testing.T) {
	for _, a := range numbers() {
		for _, b := range numbers() {
			times, left, e := Div(a, b)
			if b.Zero() {
				if e != api.ErrRange || times != (Num{}) || left != (Num{}) {
					t.Errorf("Div(%v, 0): %v %v %v", a, times, left, e)
				}
				continue
			}
			q, r := new(big.Int).QuoRem(wide(a), wide(b), new(big.Int))
			if e != api.OK || times != narrow(q) || left != narrow(r) {
				t.Errorf("Div(%v, %v): %v %v %v", a, b, times, left, e)
			}
		}
	}
}

func TestDivOfTheDocument(t *testing.T) {
	if times, left, e := Div(Of(17), Of(5)); times != Of(3) || left != Of(2) || e != api.OK {
		t.Errorf("5 in 17: %v %v %v", times, left, e)
	}
}

// P2.4

func TestShifts(t *testing.T) {
	for _, a := range numbers() {
		for n := range 256 {
			if got := Shl(a, n); got != narrow(new(big.Int).Lsh(wide(a), uint(n))) {
				t.Errorf("Shl(%v, %d): %v", a, n, got)
			}
			if got := Shr(a, n); got != narrow(new(big.Int).Rsh(wide(a), uint(n))) {
				t.Errorf("Shr(%v, %d): %v", a, n, got)
			}
		}
	}
}

func TestShiftsOutOfRange(t *testing.T) {
	for _, n := range []int{-1, -2, -63, -64, -65, -255, -256, -257, math.MinInt, math.MinInt + 1, 256, 257, 319, 320, 512, 1 << 32, math.MaxInt} {
		if Shl(all, n) != (Num{}) || Shr(all, n) != (Num{}) {
			t.Errorf("by %d: %v %v", n, Shl(all, n), Shr(all, n))
		}
	}
}

func TestLen(t *testing.T) {
	for _, a := range numbers() {
		if Len(a) != wide(a).BitLen() {
			t.Errorf("Len(%v): %d", a, Len(a))
		}
	}
	if Len(Of(8)) != 4 {
		t.Errorf("8 has four bits, not %d", Len(Of(8)))
	}
}

// P2.5

func TestIDs(t *testing.T) {
	for _, a := range numbers() {
		id := a.ID()
		for i := range 32 {
			if id[i] != byte(new(big.Int).Rsh(wide(a), uint(8*i)).Uint64()) {
				t.Fatalf("ID of %v: %x", a, id)
			}
		}
		if FromID(id) != a {
			t.Errorf("FromID(%x): %v", id, FromID(id))
		}
	}
	id := api.ID{1, 2}
	id[8], id[31] = 3, 128
	if n := FromID(id); n != (Num{513, 3, 0, 1 << 63}) {
		t.Errorf("FromID(%x): %v", id, n)
	}
}

// P2: a list that is handed in isn't changed, its spare room neither.
func TestAddChangesNothing(t *testing.T) {
	room := []Num{all, {1}, {2, 3}, {4}, {5}}
	before := slices.Clone(room)
	first, over := Add(room[:2]...)
	if again, more := Add(room[:2]...); again != first || more != over || first != (Num{}) {
		t.Error("the same numbers have another sum")
	}
	if !slices.Equal(room, before) {
		t.Errorf("the list has changed: %v", room)
	}
}
