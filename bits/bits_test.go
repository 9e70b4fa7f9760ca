package bits

import (
	"math"
	"math/big"
	"slices"
	"testing"

	"tallystick/num"
)

var (
	all    = num.Not(num.Num{})
	beyond = power(256)
)

func power(n uint) *big.Int { return new(big.Int).Lsh(big.NewInt(1), n) }

func wide(a num.Num) *big.Int {
	n := new(big.Int)
	for _, w := range slices.Backward(a[:]) {
		n.Lsh(n, 64).Or(n, new(big.Int).SetUint64(w))
	}
	return n
}

// narrow is a number modulo 2^256.
func narrow(n *big.Int) num.Num {
	rest := new(big.Int).Mod(n, beyond)
	var a num.Num
	for i := range a {
		a[i] = new(big.Int).Rsh(rest, uint(64*i)).Uint64() // the lowest 64 bits
	}
	return a
}

// number reads a number in sixteens.
func number(t *testing.T, s string) num.Num {
	t.Helper()
	n, ok := new(big.Int).SetString(s, 16)
	if !ok || n.Sign() < 0 || n.Cmp(beyond) >= 0 {
		t.Fatalf("%q is no number of 256 bits", s)
	}
	return narrow(n)
}

// at is a number from its highest digits in sixteens, and how many 0 there are behind them.
func at(t *testing.T, digits string, zeros int) num.Num {
	t.Helper()
	return narrow(new(big.Int).Lsh(wide(number(t, digits)), uint(4*zeros)))
}

// times256 is a number times 256 to the power of n, rounded down.
func times256(a *big.Int, n int) *big.Int {
	factor := new(big.Int).Exp(big.NewInt(256), big.NewInt(int64(max(n, -n))), nil)
	if n < 0 {
		return new(big.Int).Div(a, factor)
	}
	return new(big.Int).Mul(a, factor)
}

// wantTarget and the other wants say what the chapter says, in numbers without an end.
func wantTarget(b uint32) (*big.Int, bool) {
	size, word := int(b/(1<<24)), b%(1<<24)
	target := times256(big.NewInt(int64(word)), size-3)
	if word >= 1<<23 || target.Sign() == 0 || target.Cmp(beyond) >= 0 {
		return new(big.Int), false
	}
	return target, true
}

func wantShort(n *big.Int) uint32 {
	b := n.Bytes()
	if len(b) == 0 {
		return 0
	}
	size := len(b)
	if b[0] >= 0x80 {
		size++
	}
	return uint32(size)*(1<<24) + uint32(times256(n, 3-size).Uint64())
}

func wantNext(b uint32, took, should int64, limit *big.Int) (uint32, bool) {
	target, ok := wantTarget(b)
	if !ok || should <= 0 || should > 1<<40 {
		return 0, false
	}
	took = min(max(took, should/4), 4*should)
	by, times := big.NewInt(should), big.NewInt(took)
	next := new(big.Int).Mul(target, times)
	if next.Cmp(beyond) < 0 {
		next.Div(next, by)
	} else {
		next.Mul(next.Div(target, by), times)
	}
	if next.Cmp(limit) > 0 {
		next = limit
	}
	return wantShort(next), true
}

// words are the lower three bytes at their edges, and some of no form.
func words() []uint32 {
	list := []uint32{0, 1, 2, 3, 0x7f, 0x80, 0xff, 0x100, 0x1ff, 0x7fff, 0x8000, 0xffff, 0x10000, 0x123456, 0x3fffff, 0x400000,
		0x7ffffe, 0x7fffff, 0x800000, 0x800001, 0x8000ff, 0x923456, 0xff0000, 0xfffffe, 0xffffff}
	x := uint32(9)
	for range 20 {
		x = x*1664525 + 1013904223
		list = append(list, x>>8)
	}
	return list
}

// shorts are all sizes with all words.
func shorts() []uint32 {
	var list []uint32
	for size := range uint32(256) {
		for _, w := range words() {
			list = append(list, size<<24|w)
		}
	}
	return list
}

// numbers are the edges, each bit's neighbours, and some that are of no form.
func numbers() []num.Num {
	list := []num.Num{{}, all, {1, 1, 1, 1}, {0, math.MaxUint64, 0, math.MaxUint64}, {9, 0, 0, 1}, {0x123456}, {0x12345678}}
	for n := range uint(256) {
		one := big.NewInt(1)
		list = append(list, narrow(power(n)), narrow(new(big.Int).Sub(power(n), one)), narrow(new(big.Int).Add(power(n), one)))
	}
	x := uint64(5)
	for i := range 64 {
		var a num.Num
		for j := range 1 + i%4 {
			x = x*6364136223846793005 + 1442695040888963407
			a[j] = x ^ x>>29
		}
		list = append(list, num.Shr(a, i%8))
	}
	return list
}

// P3.1

func TestTarget(t *testing.T) {
	for b, want := range map[uint32]num.Num{
		0x01010000: num.Of(1),
		0x01123456: num.Of(0x12),
		0x017fffff: num.Of(0x7f),
		0x02000100: num.Of(1),
		0x02008000: num.Of(0x80),
		0x02123456: num.Of(0x1234),
		0x03000001: num.Of(1),
		0x03123456: num.Of(0x123456),
		0x037fffff: num.Of(0x7fffff),
		0x04123456: num.Of(0x12345600),
		0x05009234: num.Of(0x92340000),
		0x1d00ffff: at(t, "ffff", 52),
		0x207fffff: at(t, "7fffff", 58),
		0x20000001: at(t, "1", 58),
		0x2100ffff: at(t, "ffff", 60),
		0x220000ff: at(t, "ff", 62),
		0x22000001: at(t, "1", 62),
	} {
		if got, ok := Target(b); got != want || !ok {
			t.Errorf("Target(%08x): %v %v, want %v", b, got, ok, want)
		}
	}
}

func TestTargetOfTheDocument(t *testing.T) {
	if got, ok := Target(0x207fffff); !ok || num.Len(got) != 255 {
		t.Errorf("207fffff means 255 bits, not %d, %v", num.Len(got), ok)
	}
}

func TestNoTarget(t *testing.T) {
	for what, list := range map[string][]uint32{
		"the word 0":                 {0, 0x01000000, 0x02000000, 0x03000000, 0x04000000, 0x20000000, 0x22000000, 0xff000000},
		"a word of 2^23 or more":     {0x00800000, 0x01800000, 0x02800000, 0x03800000, 0x03ffffff, 0x04923456, 0x1d800000, 0x20ffffff, 0xff800000, 0xffffffff},
		"nothing left of a word":     {0x00000001, 0x00123456, 0x007fffff, 0x01000001, 0x0100ffff, 0x02000001, 0x020000ff},
		"more than 256 bits":         {0x21010000, 0x217fffff, 0x22000100, 0x2200ffff, 0x227fffff, 0x23000001, 0x230000ff, 0x24000001, 0x25000001, 0x2a000001},
		"very many more than 256":    {0x40000001, 0x7f7fffff, 0x80000001, 0xfe123456, 0xff000001, 0xff7fffff},
		"a size that turns a number": {0x43000001, 0x43123456, 0x63123456, 0x83123456, 0xa3123456},
	} {
		for _, b := range list {
			if got, ok := Target(b); got != (num.Num{}) || ok {
				t.Errorf("%s: Target(%08x): %v %v", what, b, got, ok)
			}
		}
	}
}

func TestTargetOfAllSizes(t *testing.T) {
	for _, b := range shorts() {
		want, ok := wantTarget(b)
		if got, told := Target(b); got != narrow(want) || told != ok {
			t.Errorf("Target(%08x): %v %v, want %x %v", b, got, told, want, ok)
		}
	}
}

// P3.2

func TestShort(t *testing.T) {
	for _, c := range []struct {
		n    num.Num
		want uint32
	}{
		{num.Num{}, 0},
		{num.Of(1), 0x01010000},
		{num.Of(0x12), 0x01120000},
		{num.Of(0x7f), 0x017f0000},
		{num.Of(0x80), 0x02008000}, // the highest bit of the highest byte is 1: one byte more
		{num.Of(0xff), 0x0200ff00},
		{num.Of(0x100), 0x02010000},
		{num.Of(0x7fff), 0x027fff00},
		{num.Of(0x8000), 0x03008000},
		{num.Of(0xffff), 0x0300ffff},
		{num.Of(0x10000), 0x03010000},
		{num.Of(0x7fffff), 0x037fffff},
		{num.Of(0x800000), 0x04008000},
		{num.Of(0xffffff), 0x0400ffff},
		{num.Of(0x12345678), 0x04123456},
		{num.Of(0x92345678), 0x05009234},
		{num.Num{0, 1 << 63}, 0x11008000},
		{num.Num{0, 0, 1}, 0x11010000},
		{at(t, "ffff", 52), 0x1d00ffff},
		{at(t, "7fffff", 58), 0x207fffff},
		{at(t, "8", 63), 0x21008000}, // 33 bytes, though it has 256 bits
		{all, 0x2100ffff},
	} {
		if got := Short(c.n); got != c.want {
			t.Errorf("Short(%v): %08x, want %08x", c.n, got, c.want)
		}
	}
}

func TestShortOfAllLengths(t *testing.T) {
	for _, n := range numbers() {
		if got, want := Short(n), wantShort(wide(n)); got != want {
			t.Errorf("Short(%v): %08x, want %08x", n, got, want)
		}
	}
}

// What is short is a target again: the number but for the bytes behind its highest ones.
func TestShortIsRead(t *testing.T) {
	for _, n := range numbers() {
		b := Short(n)
		target, ok := Target(b)
		if ok == n.Zero() || num.Cmp(target, n) > 0 || Short(target) != b {
			t.Errorf("%v: %08x means %v %v", n, b, target, ok)
		}
	}
	for _, b := range shorts() {
		if target, ok := Target(b); ok {
			if again, ok := Target(Short(target)); again != target || !ok {
				t.Errorf("%08x means %v, but its Short %v %v", b, target, again, ok)
			}
		}
	}
}

// P3.3

func TestWork(t *testing.T) {
	limit, _ := Target(0x207fffff)
	half := num.Num{0, 0, 0, 1 << 63}
	for _, c := range []struct{ target, want num.Num }{
		{num.Num{}, num.Num{}}, // 2^256 itself
		{num.Of(1), half},
		{num.Of(2), number(t, "5555555555555555555555555555555555555555555555555555555555555555")},
		{num.Of(3), num.Num{0, 0, 0, 1 << 62}},
		{num.Of(math.MaxUint64), num.Num{0, 0, 0, 1}},
		{limit, num.Of(2)},
		{num.Not(half), num.Of(2)},
		{half, num.Of(1)},
		{num.Num{math.MaxUint64 - 1, math.MaxUint64, math.MaxUint64, math.MaxUint64}, num.Of(1)},
		{all, num.Of(1)},
	} {
		if got := Work(c.target); got != c.want {
			t.Errorf("Work(%v): %v, want %v", c.target, got, c.want)
		}
	}
}

func TestWorkOfAllLengths(t *testing.T) {
	for _, target := range numbers() {
		want := new(big.Int).Div(beyond, new(big.Int).Add(wide(target), big.NewInt(1)))
		if got := Work(target); got != narrow(want) {
			t.Errorf("Work(%v): %v, want %x", target, got, want)
		}
	}
}

// P3.4

func TestNext(t *testing.T) {
	easy, _ := Target(0x207fffff)
	hard, _ := Target(0x1d00ffff)
	for what, c := range map[string]struct {
		b            uint32
		took, should int64
		limit        num.Num
		want         uint32
	}{
		"as many as there should be":  {0x1b0404cb, 1209600, 1209600, hard, 0x1b0404cb},
		"a little less":               {0x1d00ffff, 1022578, 1209600, hard, 0x1d00d86a},
		"half":                        {0x1b040000, 500, 1000, hard, 0x1b020000},
		"twice":                       {0x1b040000, 2000, 1000, hard, 0x1b080000},
		"a fourth":                    {0x1b040000, 250, 1000, hard, 0x1b010000},
		"less than a fourth":          {0x1b040000, 249, 1000, hard, 0x1b010000},
		"less than a fourth, too":     {0x1c05a3f4, 289434, 1209600, hard, 0x1c0168fd},
		"none":                        {0x1b040000, 0, 1000, hard, 0x1b010000},
		"less than none":              {0x1b040000, -1, 1000, hard, 0x1b010000},
		"the least number":            {0x1b040000, math.MinInt64, 1000, hard, 0x1b010000},
		"four times":                  {0x1b040000, 4000, 1000, hard, 0x1b100000},
		"more than four times":        {0x1b040000, 4001, 1000, hard, 0x1b100000},
		"more than four times, too":   {0x1c387f6f, 6048000, 1209600, hard, 0x1d00e1fd},
		"the greatest number":         {0x1b040000, math.MaxInt64, 1000, hard, 0x1b100000},
		"a fourth is rounded down":    {0x03000040, 1, 7, hard, 0x01090000},
		"a fourth of 3 is none":       {0x03000040, 0, 3, hard, 0},
		"should is 1":                 {0x1b040000, 1, 1, hard, 0x1b040000},
		"should is 1, none took":      {0x1b040000, 0, 1, hard, 0},
		"should is 2^40":              {0x1b040000, 1 << 39, 1 << 40, hard, 0x1b020000},
		"should is 2^40, none took":   {0x1b040000, 0, 1 << 40, hard, 0x1b010000},
		"should is 2^40, all took":    {0x1b040000, math.MaxInt64, 1 << 40, hard, 0x1b100000},
		"rounded down":                {0x03000005, 2, 3, hard, 0x01030000},
		"the product just fits":       {0x20200000, 7, 3, all, 0x204aaaaa},
		"the product doesn't fit":     {0x207fffff, 3, 3, all, 0x207ffffe}, // so it is divided first, and a third is lost
		"the product is 2^256":        {0x20200000, 8, 3, all, 0x20555555},
		"the same, and more":          {0x207fffff, 4, 3, all, 0x2100aaaa},
		"the product is much more":    {0x20123456, 1 << 40, 1 << 40, all, 0x20123456},
		"the greatest target":         {0x2100ffff, 1000, 1000, all, 0x2100fffe},
		"neither fits":                {0x207fffff, 4, 1, all, 0x2100ffff},
		"neither fits, and the limit": {0x207fffff, 4, 1, easy, 0x207fffff},
		"neither fits, with a rest":   {0x2100ffff, 28, 7, hard, 0x1d00ffff},
		"it is the limit":             {0x1d00ffff, 1000, 1000, hard, 0x1d00ffff},
		"it is above the limit":       {0x1d00ffff, 1001, 1000, hard, 0x1d00ffff},
		"it is just below the limit":  {0x1d00ffff, 999, 1000, hard, 0x1d00ffbd},
		"the bits are above it":       {0x207fffff, 1000, 1000, hard, 0x1d00ffff},
		"the limit is one less":       {0x03000100, 1, 1, num.Of(0xff), 0x0200ff00},
		"the limit is 1":              {0x1d00ffff, 7, 7, num.Of(1), 0x01010000},
		"the limit is 0":              {0x1d00ffff, 7, 7, num.Num{}, 0},
	} {
		if got, ok := Next(c.b, c.took, c.should, c.limit); got != c.want || !ok {
			t.Errorf("%s: Next(%08x, %d, %d, %v): %08x %v, want %08x", what, c.b, c.took, c.should, c.limit, got, ok, c.want)
		}
	}
}

func TestNoNext(t *testing.T) {
	for what, c := range map[string]struct {
		b            uint32
		took, should int64
	}{
		"should is 0":                 {0x207fffff, 1, 0},
		"should is below 0":           {0x207fffff, 1, -1},
		"should is far below 0":       {0x207fffff, -1, math.MinInt64},
		"should is above 2^40":        {0x207fffff, 1 << 40, 1<<40 + 1},
		"should is far above 2^40":    {0x207fffff, 1, math.MaxInt64},
		"four times should turns":     {0x207fffff, 1, 1 << 62},
		"no bits":                     {0, 1, 1},
		"a word of 2^23":              {0x1d800000, 1, 1},
		"nothing left of a word":      {0x01000001, 1, 1},
		"more than 256 bits":          {0x23000001, 1, 1},
		"neither the bits nor should": {0xffffffff, 1, 0},
	} {
		if got, ok := Next(c.b, c.took, c.should, all); got != 0 || ok {
			t.Errorf("%s: Next(%08x, %d, %d): %08x %v", what, c.b, c.took, c.should, got, ok)
		}
	}
}

func TestNextOfAll(t *testing.T) {
	limits := []num.Num{{}, num.Of(1), num.Of(0x8000), at(t, "ffff", 52), at(t, "7fffff", 58), {0, 0, 0, 1 << 63}, all}
	shoulds := []int64{math.MinInt64, -4, -1, 0, 1, 2, 3, 4, 5, 7, 8, 100, 1209600, 1 << 32, 1<<40 - 1, 1 << 40, 1<<40 + 1, 1 << 61, math.MaxInt64}
	for _, b := range []uint32{0, 0x01010000, 0x017fffff, 0x02008000, 0x03000001, 0x037fffff, 0x04123456, 0x11008000, 0x1b0404cb, 0x1d00ffff, 0x1d800000,
		0x1e7fffff, 0x1f7fffff, 0x20000001, 0x201fffff, 0x20200000, 0x207fffff, 0x2100ffff, 0x21008000, 0x21010000, 0x22000001, 0x220000ff, 0x23000001, 0xffffffff} {
		for _, should := range shoulds {
			fourth, most := should/4, should*4
			for _, took := range []int64{math.MinInt64, -1, 0, 1, fourth - 1, fourth, fourth + 1, should - 1, should, should + 1, most - 1, most, most + 1, math.MaxInt64} {
				for _, limit := range limits {
					want, ok := wantNext(b, took, should, wide(limit))
					if got, told := Next(b, took, should, limit); got != want || told != ok {
						t.Errorf("Next(%08x, %d, %d, %v): %08x %v, want %08x %v", b, took, should, limit, got, told, want, ok)
					}
				}
			}
		}
	}
}
