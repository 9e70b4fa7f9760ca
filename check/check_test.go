package check

import (
	"math"
	"reflect"
	"slices"
	"testing"

	"tallystick/api"
	"tallystick/index"
	"tallystick/sample"
	"tallystick/tx"
)

// maker is what the first transaction of a block spends, told by no call that is tried.
var maker = api.Point{Index: 1<<32 - 1}

// outs are outputs of amounts.
func outs(amounts ...int64) []api.Out {
	var list []api.Out
	for i, n := range amounts {
		list = append(list, api.Out{Amount: n, Lock: api.ID{byte(i)}})
	}
	return list
}

// spends are inputs that spend points, each by a key of its own.
func spends(points ...api.Point) []api.In {
	var list []api.In
	for i, p := range points {
		list = append(list, api.In{Point: p, Key: []byte{byte(i)}})
	}
	return list
}

// points are so many, each another one.
func points(n int) []api.Point {
	var list []api.Point
	for i := range n {
		list = append(list, api.Point{Tx: api.ID{1, byte(i)}, Index: uint32(i)})
	}
	return list
}

// keyed is an input with a key of so many bytes.
func keyed(p api.Point, n int) api.In { return api.In{Point: p, Key: make([]byte, n)} }

// made is a block's first transaction; mark tells it from others.
func made(mark int) api.Tx {
	return api.Tx{Ins: []api.In{{Point: maker, Key: []byte{byte(mark), byte(mark >> 8)}}}, Outs: outs(50)}
}

// moved is a transaction that spends a point of its own.
func moved(mark int) api.Tx {
	return api.Tx{Ins: spends(api.Point{Tx: api.ID{2, byte(mark)}, Index: uint32(mark)}), Outs: outs(1, 2)}
}

// many is a first transaction and so many others.
func many(n int) []api.Tx {
	list := []api.Tx{made(0)}
	for i := range n {
		list = append(list, moved(i))
	}
	return list
}

// rooted is a block of transactions, and of their root.
func rooted(txs ...api.Tx) api.Block {
	root, _ := tx.Root(txs...)
	return api.Block{Header: api.Header{Version: 1, Root: root, Time: 5}, Txs: txs}
}

// sized is a block that is right but for how long it may be, of so many bytes, which must be at least 4000.
func sized(t *testing.T, n int) api.Block {
	t.Helper()
	list := []api.Tx{made(0)}
	for i := 0; len(list) < tx.MaxTxs; i++ {
		list = append(list, moved(i))
	}
	left := n - len(tx.Block(rooted(list...)))
	for i := range list {
		for len(list[i].Outs) < tx.MaxParts && left >= 40 {
			list[i].Outs = append(list[i].Outs, api.Out{})
			left -= 40
		}
	}
	list[5].Ins[0].Key = make([]byte, 1+left)
	b := rooted(list...)
	if got := len(tx.Block(b)); got != n {
		t.Fatalf("a block of %d bytes, want %d", got, n)
	}
	return b
}

// two64 is a transaction that has as many bytes as two names.
func two64(t *testing.T) api.Tx {
	t.Helper()
	x := api.Tx{Ins: []api.In{keyed(maker, 25)}}
	if got := len(tx.Bytes(x)); got != 64 {
		t.Fatalf("a transaction of %d bytes, want 64", got)
	}
	return x
}

// P12.1
func TestMaker(t *testing.T) {
	if got := Maker(); got != maker {
		t.Errorf("Maker: %+v", got)
	}
}

// P12.1: at the edges, and of wrong amounts.
func TestSum(t *testing.T) {
	const most = index.MaxMoney
	if most != 1125899906842624 {
		t.Fatalf("MaxMoney: %d", int64(most))
	}
	for _, x := range []struct {
		amounts []int64
		want    int64
		ok      bool
	}{
		{nil, 0, true},
		{[]int64{0}, 0, true},
		{[]int64{0, 0, 0}, 0, true},
		{[]int64{7}, 7, true},
		{[]int64{1, 2, 3}, 6, true},
		{[]int64{most}, most, true},
		{[]int64{most, 0}, most, true},
		{[]int64{most - 1, 1}, most, true},
		{[]int64{1, most - 1}, most, true},
		{[]int64{most / 2, most / 2}, most, true},
		{[]int64{most + 1}, 0, false},
		{[]int64{most, 1}, 0, false},
		{[]int64{1, most}, 0, false},
		{[]int64{most / 2, most / 2, 1}, 0, false},
		{[]int64{0, -1}, 0, false},
		{[]int64{-1}, 0, false},
		{[]int64{-1, 1}, 0, false},
		{[]int64{5, -5, 5}, 0, false},
		{[]int64{5, 5, -1}, 0, false},
		{[]int64{most + 1, -1}, 0, false},
		{[]int64{most, -most}, 0, false},
		{[]int64{math.MaxInt64}, 0, false},
		{[]int64{math.MaxInt64, 1}, 0, false},
		{[]int64{math.MaxInt64, math.MaxInt64}, 0, false},
		{[]int64{math.MaxInt64, math.MaxInt64, 2}, 0, false},
		{[]int64{1, math.MaxInt64}, 0, false},
		{[]int64{most, math.MaxInt64 - most + 1}, 0, false},
		{[]int64{math.MinInt64}, 0, false},
		{[]int64{math.MinInt64, math.MinInt64}, 0, false},
		{[]int64{math.MaxInt64, math.MinInt64}, 0, false},
	} {
		if got, ok := Sum(outs(x.amounts...)...); got != x.want || ok != x.ok {
			t.Errorf("Sum of %d: %d, %v, want %d, %v", x.amounts, got, ok, x.want, x.ok)
		}
	}
	if got, ok := Sum(outs(slices.Repeat([]int64{most / 1024}, 1024)...)...); got != most || !ok {
		t.Errorf("Sum of many: %d, %v", got, ok)
	}
	if got, ok := Sum(outs(slices.Repeat([]int64{most}, 1<<14)...)...); got != 0 || ok {
		t.Errorf("Sum of many that turn over: %d, %v", got, ok)
	}
}

// P12.2: at the edges, of wrong ones, and of what is asked first.
func TestTx(t *testing.T) {
	one := api.Point{Tx: api.ID{9}}
	for what, x := range map[string]struct {
		ins   []api.In
		outs  []api.Out
		first bool
		want  api.Errno
	}{
		"one":                                {spends(one), outs(1), false, api.OK},
		"a first one":                        {spends(maker), outs(1), true, api.OK},
		"a first one without a key":          {[]api.In{{Point: maker}}, outs(1), true, api.OK},
		"nothing":                            {nil, nil, false, api.ErrShape},
		"nothing, a first one":               {nil, nil, true, api.ErrShape},
		"no inputs":                          {nil, outs(1), false, api.ErrShape},
		"no inputs, a first one":             {nil, outs(1), true, api.ErrShape},
		"no outputs":                         {spends(one), nil, false, api.ErrShape},
		"no outputs, a first one":            {spends(maker), nil, true, api.ErrShape},
		"as many inputs as may be":           {spends(points(32)...), outs(1), false, api.OK},
		"an input too many":                  {spends(points(33)...), outs(1), false, api.ErrShape},
		"as many outputs as may be":          {spends(one), outs(make([]int64, 32)...), false, api.OK},
		"an output too many":                 {spends(one), outs(make([]int64, 33)...), false, api.ErrShape},
		"an output too many, a first one":    {spends(maker), outs(make([]int64, 33)...), true, api.ErrShape},
		"as many of both":                    {spends(points(32)...), outs(make([]int64, 32)...), false, api.OK},
		"too many of both":                   {spends(points(33)...), outs(make([]int64, 33)...), false, api.ErrShape},
		"a key as long as may be":            {[]api.In{keyed(one, 100)}, outs(1), false, api.OK},
		"a key too long":                     {[]api.In{keyed(one, 101)}, outs(1), false, api.ErrLong},
		"a first one's key":                  {[]api.In{keyed(maker, 100)}, outs(1), true, api.OK},
		"a first one's key too long":         {[]api.In{keyed(maker, 101)}, outs(1), true, api.ErrLong},
		"a later key too long":               {[]api.In{keyed(one, 100), keyed(api.Point{Index: 3}, 101)}, outs(1), false, api.ErrLong},
		"a key much too long":                {[]api.In{keyed(one, 1<<16)}, outs(1), false, api.ErrLong},
		"the maker, not first":               {spends(maker), outs(1), false, api.ErrShape},
		"the maker behind others":            {spends(one, maker), outs(1), false, api.ErrShape},
		"the maker last of as many":          {spends(append(points(31), maker)...), outs(1), false, api.ErrShape},
		"not the maker, but first":           {spends(one), outs(1), true, api.ErrShape},
		"the maker and another":              {spends(maker, one), outs(1), true, api.ErrShape},
		"the maker's name alone":             {spends(api.Point{}), outs(1), true, api.ErrShape},
		"the maker's name alone, not first":  {spends(api.Point{}), outs(1), false, api.OK},
		"the maker's index alone":            {spends(api.Point{Tx: api.ID{31: 1}, Index: math.MaxUint32}), outs(1), true, api.ErrShape},
		"the maker's index alone, not first": {spends(api.Point{Tx: api.ID{31: 1}, Index: math.MaxUint32}), outs(1), false, api.OK},
		"near the maker":                     {spends(api.Point{Index: math.MaxUint32 - 1}), outs(1), true, api.ErrShape},
		"near the maker, not first":          {spends(api.Point{Index: math.MaxUint32 - 1}), outs(1), false, api.OK},
		"a point twice":                      {spends(one, one), outs(1), false, api.ErrTwice},
		"a point twice, by one key":          {[]api.In{keyed(one, 3), keyed(one, 3)}, outs(1), false, api.ErrTwice},
		"a point twice, far away":            {spends(append(points(31), points(31)[0])...), outs(1), false, api.ErrTwice},
		"the last point twice":               {spends(append(points(31), points(31)[30])...), outs(1), false, api.ErrTwice},
		"the zero point twice":               {spends(api.Point{}, api.Point{}), outs(1), false, api.ErrTwice},
		"the maker twice, first":             {spends(maker, maker), outs(1), true, api.ErrTwice},
		"the maker twice, not first":         {spends(maker, maker), outs(1), false, api.ErrShape},
		"one name, two outputs":              {spends(one, api.Point{Tx: one.Tx, Index: 1}), outs(1), false, api.OK},
		"one output of two names":            {spends(one, api.Point{Tx: api.ID{8}}), outs(1), false, api.OK},
		"one key for two":                    {[]api.In{keyed(one, 3), keyed(api.Point{}, 3)}, outs(1), false, api.OK},
		"an amount of none":                  {spends(one), outs(0), false, api.OK},
		"as much as may be":                  {spends(one), outs(index.MaxMoney-5, 5), false, api.OK},
		"too much":                           {spends(one), outs(index.MaxMoney-5, 6), false, api.ErrAmount},
		"too much, a first one":              {spends(maker), outs(index.MaxMoney, 1), true, api.ErrAmount},
		"below 0":                            {spends(one), outs(5, -1), false, api.ErrAmount},
		"turned over":                        {spends(one), outs(math.MaxInt64, math.MaxInt64, 2), false, api.ErrAmount},
		"no outputs ahead of a long key":     {[]api.In{keyed(one, 101)}, nil, false, api.ErrShape},
		"too many ahead of a long key":       {append(spends(points(32)...), keyed(one, 101)), outs(1), false, api.ErrShape},
		"many outputs ahead of a long key":   {[]api.In{keyed(one, 101)}, outs(make([]int64, 33)...), false, api.ErrShape},
		"many outputs ahead of twice":        {spends(one, one), outs(make([]int64, 33)...), false, api.ErrShape},
		"many outputs ahead of too much":     {spends(one), outs(append(make([]int64, 32), -1)...), false, api.ErrShape},
		"a long key ahead of the maker":      {[]api.In{keyed(maker, 101)}, outs(1), false, api.ErrLong},
		"a long key ahead of another point":  {[]api.In{keyed(one, 101)}, outs(1), true, api.ErrLong},
		"a long key ahead of twice":          {[]api.In{keyed(one, 1), keyed(one, 101)}, outs(1), false, api.ErrLong},
		"the maker ahead of a long key":      {[]api.In{keyed(maker, 1), keyed(one, 101)}, outs(1), false, api.ErrShape},
		"twice ahead of a long key":          {[]api.In{keyed(one, 1), keyed(one, 1), keyed(maker, 101)}, outs(1), false, api.ErrTwice},
		"twice ahead of the maker":           {spends(one, one, maker), outs(1), false, api.ErrTwice},
		"the maker ahead of twice":           {spends(one, maker, one), outs(1), false, api.ErrShape},
		"a long key ahead of too much":       {[]api.In{keyed(one, 101)}, outs(-1), false, api.ErrLong},
		"the maker ahead of too much":        {spends(maker), outs(-1), false, api.ErrShape},
		"twice ahead of too much":            {spends(one, one), outs(-1), false, api.ErrTwice},
	} {
		if got := Tx(api.Tx{Ins: x.ins, Outs: x.outs}, x.first); got != x.want {
			t.Errorf("Tx of %s: %v, want %v", what, got, x.want)
		}
	}
}

// P12.3: at the edges, of wrong ones, and of what is asked first.
func TestBlock(t *testing.T) {
	bad := api.Tx{Ins: spends(points(1)...), Outs: outs(-1)}
	long := api.Tx{Ins: []api.In{keyed(api.Point{Index: 7}, 101)}, Outs: outs(1)}
	shapeless := api.Tx{Ins: spends(points(1)...)}
	wrong := sized(t, 8193)
	wrong.Root[0]++
	for what, x := range map[string]struct {
		b    api.Block
		want api.Errno
	}{
		"the first alone":                 {rooted(made(0)), api.OK},
		"two":                             {rooted(made(0), moved(1)), api.OK},
		"three":                           {rooted(made(0), moved(1), moved(2)), api.OK},
		"as many as may be":               {rooted(many(31)...), api.OK},
		"one too many":                    {rooted(many(32)...), api.ErrShape},
		"none":                            {rooted(), api.ErrShape},
		"the zero one":                    {api.Block{}, api.ErrShape},
		"too many, all wrong":             {rooted(make([]api.Tx, 33)...), api.ErrShape},
		"as many as may be, all wrong":    {rooted(slices.Repeat([]api.Tx{bad}, 32)...), api.ErrShape},
		"too many, of long ones":          {rooted(slices.Repeat([]api.Tx{long}, 33)...), api.ErrShape},
		"no first":                        {rooted(moved(1), moved(2)), api.ErrShape},
		"two that are first":              {rooted(made(0), made(1)), api.ErrShape},
		"the first at the end":            {rooted(moved(1), made(1)), api.ErrShape},
		"a wrong amount":                  {rooted(made(0), moved(1), bad), api.ErrAmount},
		"a long key":                      {rooted(made(0), moved(1), long, moved(2)), api.ErrLong},
		"the first wrong":                 {rooted(api.Tx{Ins: spends(maker), Outs: outs(-1)}, long), api.ErrAmount},
		"a wrong amount ahead of a long":  {rooted(made(0), bad, long), api.ErrAmount},
		"a long ahead of a wrong amount":  {rooted(made(0), long, bad), api.ErrLong},
		"a shape ahead of both":           {rooted(made(0), shapeless, long, bad), api.ErrShape},
		"a shape behind both":             {rooted(made(0), bad, long, shapeless), api.ErrAmount},
		"a point twice":                   {rooted(made(0), api.Tx{Ins: spends(maker, maker), Outs: outs(1)}), api.ErrShape},
		"a point twice in one":            {rooted(made(0), api.Tx{Ins: spends(points(1)[0], points(1)[0]), Outs: outs(1)}), api.ErrTwice},
		"a point in two":                  {rooted(made(0), api.Tx{Ins: spends(points(1)...), Outs: outs(1)}, api.Tx{Ins: spends(points(1)...), Outs: outs(2)}), api.OK},
		"as long as may be":               {sized(t, 8192), api.OK},
		"one byte too long":               {sized(t, 8193), api.ErrLong},
		"much too long":                   {sized(t, 20000), api.ErrLong},
		"too long, of a wrong root":       {wrong, api.ErrLong},
		"a wrong amount, of a wrong root": {api.Block{Txs: []api.Tx{made(0), bad}}, api.ErrAmount},
		"a wrong root":                    {api.Block{Txs: many(3)}, api.ErrRoot},
		"as two names":                    {rooted(two64(t)), api.ErrShape}, // it has no outputs
		"two that are the same":           {rooted(made(0), moved(1), moved(1)), api.OK},
		"a pair that is the same":         {rooted(made(0), moved(1), moved(2), moved(2)), api.ErrRoot},
	} {
		if got := Block(x.b); got != x.want {
			t.Errorf("Block of %s: %v, want %v", what, got, x.want)
		}
	}
}

// P12.3: too long by its transactions, though one wouldn't be.
func TestLongBlock(t *testing.T) {
	b := sized(t, 8192)
	b.Txs[5].Ins[0].Key = append(b.Txs[5].Ins[0].Key, 1)
	b.Root, _ = tx.Root(b.Txs...)
	if got := Block(b); got != api.ErrLong {
		t.Errorf("one byte more: %v", got)
	}
	b = sized(t, 8191)
	if got := Block(b); got != api.OK {
		t.Errorf("one byte less: %v", got)
	}
}

// P12.3
func TestRoot(t *testing.T) {
	as64 := two64(t)
	near := func(n int) api.Tx { return api.Tx{Ins: []api.In{keyed(maker, 25+n)}} }
	root, _ := tx.Root(many(3)...)
	for what, x := range map[string]struct {
		b    api.Block
		want api.Errno
	}{
		"one":                      {rooted(made(0)), api.OK},
		"two":                      {rooted(many(1)...), api.OK},
		"three":                    {rooted(many(2)...), api.OK},
		"more than may be":         {rooted(many(100)...), api.OK},
		"wrong transactions":       {rooted(api.Tx{}, moved(1), moved(2)), api.OK},
		"none":                     {rooted(), api.OK},
		"none, but a root":         {api.Block{Header: api.Header{Root: api.ID{1}}}, api.ErrRoot},
		"no root":                  {api.Block{Txs: many(3)}, api.ErrRoot},
		"another order":            {api.Block{Header: api.Header{Root: root}, Txs: []api.Tx{made(0), moved(0), moved(2), moved(1)}}, api.ErrRoot},
		"one less":                 {api.Block{Header: api.Header{Root: root}, Txs: many(2)}, api.ErrRoot},
		"one more":                 {api.Block{Header: api.Header{Root: root}, Txs: many(4)}, api.ErrRoot},
		"another one":              {api.Block{Header: api.Header{Root: root}, Txs: append(many(2), moved(3))}, api.ErrRoot},
		"64 bytes":                 {rooted(as64), api.ErrRoot},
		"64 bytes, of two":         {rooted(made(0), as64), api.ErrRoot},
		"64 bytes, the first":      {rooted(as64, moved(0), moved(1)), api.ErrRoot},
		"64 bytes, in the middle":  {rooted(made(0), as64, moved(1)), api.ErrRoot},
		"64 bytes, of no root":     {api.Block{Txs: []api.Tx{as64}}, api.ErrRoot},
		"63 bytes":                 {rooted(made(0), near(-1)), api.OK},
		"65 bytes":                 {rooted(made(0), near(1)), api.OK},
		"32 bytes too few":         {rooted(made(0), api.Tx{}), api.OK},
		"the same two":             {rooted(moved(0), moved(0)), api.ErrRoot},
		"the first pair the same":  {rooted(moved(0), moved(0), moved(1)), api.ErrRoot},
		"the last pair the same":   {rooted(made(0), moved(0), moved(1), moved(1)), api.ErrRoot},
		"two same, not a pair":     {rooted(made(0), moved(0), moved(0), moved(1)), api.OK},
		"two pairs the same":       {rooted(made(0), moved(0), made(0), moved(0)), api.ErrRoot},
		"the last doubled":         {doubled(3, 1), api.ErrRoot},
		"the last two doubled":     {doubled(6, 2), api.ErrRoot},
		"the last four doubled":    {doubled(12, 4), api.ErrRoot},
		"as many, but not doubled": {rooted(many(7)...), api.OK},
	} {
		if got := Root(x.b); got != x.want {
			t.Errorf("Root of %s: %v, want %v", what, got, x.want)
		}
	}
}

// doubled is a block of so many transactions, the last few of them once more, under the root that they have without.
func doubled(n, last int) api.Block {
	b := rooted(many(n - 1)...)
	b.Txs = append(b.Txs, b.Txs[n-last:]...)
	return b
}

// P12.3: another header is as good, by the same root; by each bit of the root it isn't.
func TestRootAlone(t *testing.T) {
	b := rooted(many(4)...)
	d := sample.Dice(3)
	for range 20 {
		other := b
		other.Header = d.Header()
		other.Root = b.Root
		if Block(other) != api.OK || Root(other) != api.OK {
			t.Error("the header is asked, too")
		}
	}
	for bit := range 256 {
		other := b
		other.Root[bit/8] ^= 1 << (bit % 8)
		if Block(other) != api.ErrRoot || Root(other) != api.ErrRoot {
			t.Errorf("bit %d of the root isn't asked", bit)
		}
	}
}

// wantTx is P12.2's words, one by one.
func wantTx(x api.Tx, first bool) api.Errno {
	if len(x.Ins) == 0 || len(x.Outs) == 0 || len(x.Ins) > 32 || len(x.Outs) > 32 {
		return api.ErrShape
	}
	for i, in := range x.Ins {
		if len(in.Key) > 100 {
			return api.ErrLong
		}
		if in.Point == maker && !first || in.Point != maker && first {
			return api.ErrShape
		}
		if slices.ContainsFunc(x.Ins[:i], func(ahead api.In) bool { return ahead.Point == in.Point }) {
			return api.ErrTwice
		}
	}
	sum := 0.0
	for _, out := range x.Outs {
		if out.Amount < 0 {
			return api.ErrAmount
		}
		sum += float64(out.Amount)
	}
	if sum > 1<<50 {
		return api.ErrAmount
	}
	return api.OK
}

// wantBlock is P12.3's words, one by one.
func wantBlock(b api.Block) api.Errno {
	if len(b.Txs) == 0 || len(b.Txs) > 32 {
		return api.ErrShape
	}
	for i, x := range b.Txs {
		if e := wantTx(x, i == 0); e != api.OK {
			return e
		}
	}
	if len(sample.BlockBytes(b)) > 8192 {
		return api.ErrLong
	}
	if root, same := tx.Root(b.Txs...); same || root != b.Root {
		return api.ErrRoot
	}
	return api.OK
}

// seldom is n, but the other one every so often.
func seldom(d *sample.Dice, every, n, other int) int {
	if d.Below(every) == 0 {
		return other
	}
	return n
}

// thrown is a transaction that is nearly right.
func thrown(d *sample.Dice, first bool) api.Tx {
	var x api.Tx
	ins := seldom(d, 30, 1+d.Below(4), []int{0, 31, 32, 33}[d.Below(4)])
	if first {
		ins = seldom(d, 30, 1, 2)
	}
	for i := range ins {
		p := api.Point{Tx: api.ID{byte(d.Below(4))}, Index: uint32(i*seldom(d, 20, 1, 0) + d.Below(1000)*1000)}
		if first != (d.Below(60) == 0) {
			p = maker
		}
		x.Ins = append(x.Ins, api.In{Point: p, Key: d.Text(seldom(d, 20, d.Below(40), 99+d.Below(3)))})
	}
	for range seldom(d, 30, 1+d.Below(3), []int{0, 31, 32, 33}[d.Below(4)]) {
		amount := int64(seldom(d, 30, d.Below(1000), 1<<49+d.Below(3)-1))
		x.Outs = append(x.Outs, api.Out{Amount: int64(seldom(d, 60, 1, -1)) * amount, Lock: d.ID()})
	}
	return x
}

// P12.2 and P12.3: of any transactions and blocks each call tells what the chapter says.
func TestAny(t *testing.T) {
	told := map[api.Errno]int{}
	d := sample.Dice(9)
	for range 6000 {
		var txs []api.Tx
		for i := range seldom(&d, 20, 1+d.Below(5), []int{0, 10, 31, 32, 33}[d.Below(5)]) {
			x := thrown(&d, i == 0)
			if got, want := Tx(x, i == 0), wantTx(x, i == 0); got != want {
				t.Fatalf("Tx of %+v: %v, want %v", x, got, want)
			}
			txs = append(txs, x)
			if d.Below(20) == 0 {
				txs = append(txs, x)
			}
		}
		b := rooted(txs...)
		b.Root[3] += byte(seldom(&d, 20, 0, 1))
		got, want := Block(b), wantBlock(b)
		if got != want {
			t.Fatalf("Block of %+v: %v, want %v", b, got, want)
		}
		told[got]++
	}
	for _, e := range []api.Errno{api.OK, api.ErrShape, api.ErrTwice, api.ErrLong, api.ErrAmount, api.ErrRoot} {
		if told[e] < 20 {
			t.Errorf("%v was told %d times", e, told[e])
		}
	}
}

// P1: whatever they are given, the calls end.
func TestAnyArguments(t *testing.T) {
	d := sample.Dice(4)
	huge := api.Tx{Ins: make([]api.In, 1<<16), Outs: make([]api.Out, 1<<16)}
	raw := []api.Tx{{}, huge, {Ins: []api.In{keyed(maker, 1<<20)}, Outs: outs(1)}, d.Tx(3, 3, 300), {Outs: outs(math.MinInt64)}}
	for _, x := range raw {
		for _, first := range []bool{false, true} {
			if Tx(x, first) == api.OK {
				t.Errorf("a transaction of %d inputs and %d outputs is taken", len(x.Ins), len(x.Outs))
			}
		}
		Root(api.Block{Txs: []api.Tx{x}})
	}
	if got := Block(rooted(raw...)); got != api.ErrShape {
		t.Errorf("Block of wrong ones: %v", got)
	}
	if got := Block(rooted(slices.Repeat(many(1), 5000)...)); got != api.ErrShape {
		t.Errorf("Block of many: %v", got)
	}
}

// P2: what is handed in isn't changed, its spare room neither, nor kept.
func TestApart(t *testing.T) {
	fresh := func() api.Block {
		b := sized(t, 8192)
		b.Txs = slices.Grow(b.Txs, 5)
		for i := range b.Txs {
			b.Txs[i].Ins = slices.Grow(b.Txs[i].Ins, 5)
			b.Txs[i].Outs = slices.Grow(b.Txs[i].Outs, 5)
		}
		return b
	}
	b, want := fresh(), fresh()
	Block(b)
	Root(b)
	Tx(b.Txs[5], false)
	Sum(b.Txs[5].Outs...)
	if !reflect.DeepEqual(b, want) {
		t.Error("a block is changed")
	}
	for i, x := range b.Txs {
		if spare := x.Ins[:cap(x.Ins)][len(x.Ins)]; spare.Key != nil || spare.Point != (api.Point{}) {
			t.Errorf("the spare room of transaction %d's inputs is changed", i)
		}
		if x.Outs[:cap(x.Outs)][len(x.Outs)] != (api.Out{}) {
			t.Errorf("the spare room of transaction %d's outputs is changed", i)
		}
	}
	for _, x := range b.Txs {
		sample.ChangeTx(x)
	}
	if got := Block(want); got != api.OK {
		t.Errorf("another block is told %v", got)
	}
}
