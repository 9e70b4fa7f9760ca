package coins

import (
	"crypto/sha256"
	"maps"
	"math"
	"reflect"
	"slices"
	"testing"

	"tallystick/api"
	"tallystick/index"
	"tallystick/sample"
	"tallystick/tx"
)

// lock is the lock that a key opens.
func lock(key string) api.ID { return sha256.Sum256([]byte(key)) }

// out is an amount under the lock of a key.
func out(amount int64, key string) api.Out { return api.Out{Amount: amount, Lock: lock(key)} }

// in spends a transaction's output by a key.
func in(t api.Tx, i int, key string) api.In { return api.In{Point: at(t, i), Key: []byte(key)} }

// at is the point of a transaction's output.
func at(t api.Tx, i int) api.Point { return api.Point{Tx: tx.ID(t), Index: uint32(i)} }

// made is a block's first transaction; mark tells it from others.
func made(mark int, list ...api.Out) api.Tx {
	return api.Tx{Ins: []api.In{{Point: api.Point{Index: math.MaxUint32}, Key: []byte{byte(mark), byte(mark >> 8)}}}, Outs: list}
}

// moved is a transaction of an input and outputs.
func moved(from api.In, list ...api.Out) api.Tx { return api.Tx{Ins: []api.In{from}, Outs: list} }

// block is a block of transactions; what its header is doesn't matter.
func block(txs ...api.Tx) api.Block {
	return api.Block{Header: api.Header{Version: 8, Root: api.ID{9}}, Txs: txs}
}

// connect connects a block that is right.
func connect(t *testing.T, s *Set, height int, subsidy int64, txs ...api.Tx) Undo {
	t.Helper()
	u, e := s.Connect(block(txs...), height, subsidy)
	if e != api.OK {
		t.Fatalf("Connect at the height %d: %v", height, e)
	}
	return u
}

// disconnect takes a block away again.
func disconnect(t *testing.T, s *Set, u Undo, txs ...api.Tx) {
	t.Helper()
	if e := s.Disconnect(block(txs...), u); e != api.OK {
		t.Fatalf("Disconnect: %v", e)
	}
}

// holds asks whether a set has just these coins, by each call that tells of them.
func holds(t *testing.T, s *Set, want map[api.Point]Coin) {
	t.Helper()
	if got := s.All(); !maps.Equal(got, want) {
		t.Fatalf("All: %v, want %v", got, want)
	}
	if s.Len() != len(want) {
		t.Fatalf("Len: %d, want %d", s.Len(), len(want))
	}
	for p, coin := range want {
		if got, ok := s.Get(p); got != coin || !ok {
			t.Fatalf("Get: %v, %v, want %v", got, ok, coin)
		}
		p.Index += 1000
		if got, ok := s.Get(p); got != (Coin{}) || ok {
			t.Fatalf("Get of none: %v, %v", got, ok)
		}
	}
	if o := (&Set{coins: want}); !s.Same(o) || !o.Same(s) {
		t.Fatal("it isn't the same as a set of the same coins")
	}
}

// started is a set of three coins: 50 under a, 30 under b, and 20 under c, all of one transaction at the height 4.
func started(t *testing.T) (*Set, api.Tx) {
	t.Helper()
	first := made(1, out(50, "a"), out(30, "b"), out(20, "c"))
	s := &Set{}
	connect(t, s, 4, 100, first)
	return s, first
}

// P13.1: the zero set has none.
func TestZeroSet(t *testing.T) {
	var s Set
	holds(t, &s, nil)
	if got, ok := s.Get(api.Point{}); got != (Coin{}) || ok {
		t.Errorf("Get: %v, %v", got, ok)
	}
	if !s.Same(&s) || !s.Same(&Set{}) || !s.Same(s.Clone()) || !s.Clone().Same(&s) {
		t.Error("two without coins aren't the same")
	}
	holds(t, s.Clone(), nil)
	if full, _ := started(t); full.Same(&s) || s.Same(full) {
		t.Error("one with coins is the same as one without")
	}
}

// P13.1
func TestCoins(t *testing.T) {
	s, first := started(t)
	holds(t, s, map[api.Point]Coin{
		at(first, 0): {Out: out(50, "a"), Height: 4},
		at(first, 1): {Out: out(30, "b"), Height: 4},
		at(first, 2): {Out: out(20, "c"), Height: 4},
	})
	id := tx.ID(first)
	for _, p := range []api.Point{{}, {Tx: id, Index: 3}, {Tx: id, Index: math.MaxUint32}, {Index: 1}, {Tx: lock("a"), Index: 1}} {
		if got, ok := s.Get(p); got != (Coin{}) || ok {
			t.Errorf("Get of %v: %v, %v", p, got, ok)
		}
	}
}

// P13.1: each part of a coin, and its point, tell sets apart.
func TestSame(t *testing.T) {
	coin := Coin{Out: out(5, "a"), Height: 7}
	p, other := api.Point{Tx: lock("x"), Index: 2}, api.Point{Tx: lock("y"), Index: 2}
	one := &Set{coins: map[api.Point]Coin{p: coin}}
	for what, x := range map[string]struct {
		coins map[api.Point]Coin
		want  bool
	}{
		"the same":         {map[api.Point]Coin{p: coin}, true},
		"none":             {nil, false},
		"one more":         {map[api.Point]Coin{p: coin, other: coin}, false},
		"another name":     {map[api.Point]Coin{other: coin}, false},
		"another output":   {map[api.Point]Coin{{Tx: p.Tx, Index: 3}: coin}, false},
		"another amount":   {map[api.Point]Coin{p: {Out: out(6, "a"), Height: 7}}, false},
		"another lock":     {map[api.Point]Coin{p: {Out: out(5, "b"), Height: 7}}, false},
		"another height":   {map[api.Point]Coin{p: {Out: out(5, "a"), Height: 8}}, false},
		"the zero coin":    {map[api.Point]Coin{p: {}}, false},
		"zero, and beside": {map[api.Point]Coin{other: {}}, false},
	} {
		o := &Set{coins: x.coins}
		if one.Same(o) != x.want || o.Same(one) != x.want {
			t.Errorf("Same of %s: %v and %v, want %v", what, one.Same(o), o.Same(one), x.want)
		}
	}
	if zero := (&Set{coins: map[api.Point]Coin{p: {}}}); zero.Same(&Set{coins: map[api.Point]Coin{other: {}}}) {
		t.Error("zero coins at two points are the same")
	}
}

// P13.1 and P2: what is answered is apart.
func TestClone(t *testing.T) {
	s, first := started(t)
	want := s.All()
	clone := s.Clone()
	holds(t, clone, want)
	connect(t, clone, 5, 10, made(2, out(10, "d")), moved(in(first, 0, "a"), out(50, "e")))
	holds(t, s, want)
	if clone.Len() != 4 || clone.Same(s) {
		t.Error("a clone isn't one of its own")
	}
	connect(t, s, 5, 10, made(3))
	holds(t, s, want)
	all := s.All()
	clear(all)
	all[api.Point{Index: 7}] = Coin{Height: 7}
	holds(t, s, want)
	empty := (&Set{}).All()
	if empty != nil {
		empty[api.Point{}] = Coin{}
	}
	var zero Set
	twin := zero.Clone()
	connect(t, twin, 1, 50, made(77, out(50, "q")))
	holds(t, &zero, nil)
}

// P13.2 and P13.3; the document's example, too.
func TestExample(t *testing.T) {
	var s Set
	first := made(1, out(50, "a"))
	connect(t, &s, 1, 50, first)
	before := s.All()
	spend := moved(in(first, 0, "a"), out(48, "b"))
	if _, e := s.Connect(block(made(2, out(3, "c")), spend), 2, 0); e != api.ErrAmount {
		t.Fatalf("more is left over than 2: %v", e)
	}
	second := made(2, out(2, "c"))
	u := connect(t, &s, 2, 0, second, spend)
	holds(t, &s, map[api.Point]Coin{
		at(spend, 0):  {Out: out(48, "b"), Height: 2},
		at(second, 0): {Out: out(2, "c"), Height: 2},
	})
	disconnect(t, &s, u, second, spend)
	holds(t, &s, before)
}

// step is a block, and what comes of it.
type step struct {
	txs     []api.Tx
	subsidy int64
	want    api.Errno
}

// try holds what Connect answers of a block behind the started set against what is wanted; with an error nothing has changed.
func try(t *testing.T, what string, x step) {
	t.Helper()
	s, _ := started(t)
	before := s.All()
	u, e := s.Connect(block(x.txs...), 5, x.subsidy)
	if e != x.want {
		t.Errorf("%s: %v, want %v", what, e, x.want)
	}
	after, spent, e := model(before, x.txs, 5, x.subsidy)
	if e != x.want {
		t.Errorf("%s: the model tells %v, want %v", what, e, x.want)
	}
	holds(t, s, after)
	sameUndo(t, u, spent)
	if e != api.OK {
		holds(t, s, before)
		return
	}
	disconnect(t, s, u, x.txs...)
	holds(t, s, before)
}

func sameUndo(t *testing.T, got, want Undo) {
	t.Helper()
	if !slices.Equal(got.Points, want.Points) || !slices.Equal(got.Coins, want.Coins) {
		t.Fatalf("Undo: %v, want %v", got, want)
	}
}

// model is P13.2's words, one by one, done to a map of its own.
func model(coins map[api.Point]Coin, txs []api.Tx, height int, subsidy int64) (map[api.Point]Coin, Undo, api.Errno) {
	now := maps.Clone(coins)
	if now == nil {
		now = map[api.Point]Coin{}
	}
	var u Undo
	lay := func(x api.Tx, most int64) api.Errno {
		sum := int64(0)
		for _, out := range x.Outs {
			if out.Amount < 0 || out.Amount > 1<<50 {
				return api.ErrAmount
			}
			sum += out.Amount
		}
		if sum > 1<<50 || sum > most {
			return api.ErrAmount
		}
		for i := range x.Outs {
			if _, ok := now[at(x, i)]; ok {
				return api.ErrTwice
			}
		}
		for i, out := range x.Outs {
			now[at(x, i)] = Coin{Out: out, Height: height}
		}
		return api.OK
	}
	total := subsidy
	for i, x := range txs {
		if i == 0 {
			continue
		}
		had := int64(0)
		for _, in := range x.Ins {
			coin, ok := now[in.Point]
			if !ok {
				return coins, Undo{}, api.ErrSpent
			}
			if sha256.Sum256(in.Key) != coin.Lock {
				return coins, Undo{}, api.ErrLock
			}
			delete(now, in.Point)
			u.Points, u.Coins = append(u.Points, in.Point), append(u.Coins, coin)
			had += coin.Amount
		}
		if e := lay(x, had); e != api.OK {
			return coins, Undo{}, e
		}
		total += had
		for _, out := range x.Outs {
			total -= out.Amount
		}
	}
	if len(txs) == 0 {
		return coins, Undo{}, api.ErrShape
	}
	if e := lay(txs[0], total); e != api.OK {
		return coins, Undo{}, e
	}
	return now, u, api.OK
}

// P13.2: what may be spent.
func TestSpend(t *testing.T) {
	_, first := started(t)
	none := made(2)
	a, b, c := in(first, 0, "a"), in(first, 1, "b"), in(first, 2, "c")
	to := moved(a, out(40, "d"), out(10, "e"))
	for what, x := range map[string]step{
		"no transactions":                  {nil, 10, api.ErrShape},
		"none but the first":               {[]api.Tx{none}, 10, api.OK},
		"a coin":                           {[]api.Tx{none, moved(a, out(50, "d"))}, 10, api.OK},
		"three coins":                      {[]api.Tx{none, {Ins: []api.In{c, a, b}, Outs: []api.Out{out(100, "d")}}}, 10, api.OK},
		"three coins, one by one":          {[]api.Tx{none, moved(c, out(20, "d")), moved(a, out(50, "d")), moved(b, out(30, "d"))}, 10, api.OK},
		"a coin of the block":              {[]api.Tx{none, to, moved(in(to, 0, "d"), out(40, "f"))}, 10, api.OK},
		"all coins of the block":           {[]api.Tx{none, to, {Ins: []api.In{in(to, 1, "e"), b, in(to, 0, "d")}, Outs: []api.Out{out(80, "f")}}}, 10, api.OK},
		"no inputs, no outputs":            {[]api.Tx{none, {}}, 10, api.OK},
		"no outputs":                       {[]api.Tx{none, moved(a)}, 10, api.OK},
		"no inputs, an output of none":     {[]api.Tx{none, {Outs: []api.Out{out(0, "d")}}}, 10, api.OK},
		"no inputs, an output":             {[]api.Tx{none, {Outs: []api.Out{out(1, "d")}}}, 10, api.ErrAmount},
		"a point that isn't there":         {[]api.Tx{none, moved(in(none, 0, "a"), out(1, "d"))}, 10, api.ErrSpent},
		"another output":                   {[]api.Tx{none, moved(in(first, 3, "a"), out(1, "d"))}, 10, api.ErrSpent},
		"what the first spends":            {[]api.Tx{none, made(3)}, 10, api.ErrSpent},
		"a coin twice in one":              {[]api.Tx{none, {Ins: []api.In{a, a}, Outs: []api.Out{out(50, "d")}}}, 10, api.ErrSpent},
		"a coin twice in two":              {[]api.Tx{none, moved(a, out(50, "d")), moved(a, out(50, "e"))}, 10, api.ErrSpent},
		"a coin of the block twice":        {[]api.Tx{none, to, moved(in(to, 0, "d")), moved(in(to, 0, "d"), out(1, "z"))}, 10, api.ErrSpent},
		"a coin of the block, too early":   {[]api.Tx{none, moved(in(to, 0, "d"), out(40, "f")), to}, 10, api.ErrSpent},
		"a coin of the block's first":      {[]api.Tx{made(2, out(10, "d")), moved(in(made(2, out(10, "d")), 0, "d"), out(1, "e"))}, 10, api.ErrSpent},
		"another one's key":                {[]api.Tx{none, moved(in(first, 0, "b"), out(50, "d"))}, 10, api.ErrLock},
		"no key":                           {[]api.Tx{none, moved(in(first, 0, ""), out(50, "d"))}, 10, api.ErrLock},
		"a longer key":                     {[]api.Tx{none, moved(in(first, 0, "a\x00"), out(50, "d"))}, 10, api.ErrLock},
		"the second one's key":             {[]api.Tx{none, {Ins: []api.In{a, in(first, 1, "a")}, Outs: []api.Out{out(50, "d")}}}, 10, api.ErrLock},
		"a wrong key to the block's coin":  {[]api.Tx{none, to, moved(in(to, 0, "e"), out(40, "f"))}, 10, api.ErrLock},
		"the lock as the key":              {[]api.Tx{none, moved(api.In{Point: a.Point, Key: slices.Clone(sum("a"))}, out(50, "d"))}, 10, api.ErrLock},
		"a wrong point ahead of a key":     {[]api.Tx{none, {Ins: []api.In{in(none, 0, "x"), in(first, 0, "x")}}}, 10, api.ErrSpent},
		"a wrong key ahead of a point":     {[]api.Tx{none, {Ins: []api.In{in(first, 0, "x"), in(none, 0, "x")}}}, 10, api.ErrLock},
		"a wrong key, spent":               {[]api.Tx{none, {Ins: []api.In{a, in(first, 0, "x")}}}, 10, api.ErrSpent},
		"a wrong point ahead of amounts":   {[]api.Tx{none, moved(in(none, 0, "x"), out(-1, "d"))}, 10, api.ErrSpent},
		"a wrong key ahead of amounts":     {[]api.Tx{none, moved(in(first, 0, "x"), out(-1, "d"))}, 10, api.ErrLock},
		"amounts ahead of the next":        {[]api.Tx{none, moved(a, out(51, "d")), moved(in(first, 1, "x"))}, 10, api.ErrAmount},
		"a wrong key ahead of the first's": {[]api.Tx{made(2, out(-1, "d")), moved(in(first, 1, "x"))}, 10, api.ErrLock},
	} {
		try(t, what, x)
	}
}

// sum is a lock's bytes.
func sum(key string) []byte {
	id := lock(key)
	return id[:]
}

// P13.2: amounts, and what is left over.
func TestAmounts(t *testing.T) {
	_, first := started(t)
	a, b := in(first, 0, "a"), in(first, 1, "b")
	both := []api.In{a, b}
	to := moved(a, out(40, "d"))
	for what, x := range map[string]step{
		"as much as there is":                {[]api.Tx{made(2), {Ins: both, Outs: []api.Out{out(79, "d"), out(1, "e")}}}, 0, api.OK},
		"more than there is":                 {[]api.Tx{made(2), {Ins: both, Outs: []api.Out{out(79, "d"), out(2, "e")}}}, 0, api.ErrAmount},
		"more than there is, by the subsidy": {[]api.Tx{made(2), moved(a, out(51, "d"))}, 1000, api.ErrAmount},
		"more than there is, by a fee":       {[]api.Tx{made(2), moved(b), moved(a, out(51, "d"))}, 1000, api.ErrAmount},
		"nothing":                            {[]api.Tx{made(2), moved(a, out(0, "d"))}, 0, api.OK},
		"below 0":                            {[]api.Tx{made(2), moved(a, out(-1, "d"))}, 0, api.ErrAmount},
		"below 0, and above":                 {[]api.Tx{made(2), moved(a, out(51, "d"), out(-1, "e"))}, 0, api.ErrAmount},
		"turned over":                        {[]api.Tx{made(2), moved(a, out(math.MaxInt64, "d"), out(math.MaxInt64, "e"), out(2, "f"))}, 0, api.ErrAmount},
		"the first, nothing":                 {[]api.Tx{made(2, out(0, "d"))}, 0, api.OK},
		"the first, something of nothing":    {[]api.Tx{made(2, out(1, "d"))}, 0, api.ErrAmount},
		"the first, the subsidy":             {[]api.Tx{made(2, out(6, "d"), out(4, "e"))}, 10, api.OK},
		"the first, less":                    {[]api.Tx{made(2, out(6, "d"), out(3, "e"))}, 10, api.OK},
		"the first, more":                    {[]api.Tx{made(2, out(6, "d"), out(5, "e"))}, 10, api.ErrAmount},
		"the first, below 0":                 {[]api.Tx{made(2, out(-1, "d"))}, 10, api.ErrAmount},
		"the first, below 0 beside":          {[]api.Tx{made(2, out(11, "d"), out(-1, "d"))}, 10, api.ErrAmount},
		"the first, turned over":             {[]api.Tx{made(2, out(math.MaxInt64, "d"), out(math.MaxInt64, "d"), out(2, "d"))}, 10, api.ErrAmount},
		"a fee":                              {[]api.Tx{made(2, out(20, "d")), to}, 10, api.OK},
		"a fee, and more":                    {[]api.Tx{made(2, out(21, "d")), to}, 10, api.ErrAmount},
		"a fee of all":                       {[]api.Tx{made(2, out(60, "d")), moved(a)}, 10, api.OK},
		"a fee of all, and more":             {[]api.Tx{made(2, out(61, "d")), moved(a)}, 10, api.ErrAmount},
		"two fees":                           {[]api.Tx{made(2, out(25, "d")), to, moved(b, out(25, "d"))}, 10, api.OK},
		"two fees, and more":                 {[]api.Tx{made(2, out(26, "d")), to, moved(b, out(25, "d"))}, 10, api.ErrAmount},
		"fees of one coin":                   {[]api.Tx{made(2, out(15, "e")), to, moved(in(to, 0, "d"), out(35, "f"))}, 0, api.OK},
		"fees of one coin, and more":         {[]api.Tx{made(2, out(16, "e")), to, moved(in(to, 0, "d"), out(35, "f"))}, 0, api.ErrAmount},
		"the first's inputs aren't asked":    {[]api.Tx{{Ins: []api.In{a, in(first, 9, "x")}, Outs: []api.Out{out(10, "d")}}}, 10, api.OK},
		"nor what they would bring":          {[]api.Tx{{Ins: []api.In{a}, Outs: []api.Out{out(11, "d")}}}, 10, api.ErrAmount},
		"the first without any":              {[]api.Tx{{}}, 10, api.OK},
		"the first, as much as may be":       {[]api.Tx{made(2, out(index.MaxMoney, "d"))}, index.MaxMoney, api.OK},
		"the first, one less":                {[]api.Tx{made(2, out(index.MaxMoney, "d"))}, index.MaxMoney - 1, api.ErrAmount},
		"the first, less than a fee":         {[]api.Tx{made(2, out(index.MaxMoney, "d")), moved(a)}, index.MaxMoney, api.OK},
		"the first, more than may be":        {[]api.Tx{made(2, out(index.MaxMoney, "d"), out(1, "e")), moved(a)}, index.MaxMoney, api.ErrAmount},
	} {
		try(t, what, x)
	}
}

// P13.2: coins that are together more than an amount may be.
func TestMuchMoney(t *testing.T) {
	var s Set
	var whole api.Tx
	for height := range 30 {
		first := made(height, out(index.MaxMoney, "a"))
		connect(t, &s, height, index.MaxMoney, first)
		whole.Ins = append(whole.Ins, in(first, 0, "a"))
	}
	before := s.Clone()
	whole.Outs = []api.Out{out(index.MaxMoney, "b")}
	next := whole
	next.Outs = []api.Out{out(index.MaxMoney, "b"), out(1, "c")}
	if _, e := s.Connect(block(made(99), next), 31, 0); e != api.ErrAmount || !s.Same(before) {
		t.Errorf("more than may be: %v", e)
	}
	first := made(99, out(index.MaxMoney, "d"))
	u := connect(t, &s, 31, index.MaxMoney, first, whole)
	holds(t, &s, map[api.Point]Coin{
		at(first, 0): {Out: out(index.MaxMoney, "d"), Height: 31},
		at(whole, 0): {Out: out(index.MaxMoney, "b"), Height: 31},
	})
	disconnect(t, &s, u, first, whole)
	if !s.Same(before) {
		t.Error("the coins aren't as they were")
	}
}

// P13.2: coins at points that have one.
func TestTwice(t *testing.T) {
	_, first := started(t)
	a, b := in(first, 0, "a"), in(first, 1, "b")
	free := api.Tx{Outs: []api.Out{out(0, "d"), out(0, "e")}}
	take := func(list ...int) api.Tx {
		var x api.Tx
		for _, i := range list {
			x.Ins = append(x.Ins, in(free, i, []string{"d", "e"}[i]))
		}
		return x
	}
	spendFirst := api.Tx{Ins: []api.In{a, b, in(first, 2, "c")}}
	for what, x := range map[string]step{
		"one twice in a block":                    {[]api.Tx{made(2), free, free}, 0, api.ErrTwice},
		"one twice in a block, not side by side":  {[]api.Tx{made(2), free, moved(a), free}, 0, api.ErrTwice},
		"one twice, spent between":                {[]api.Tx{made(2), free, take(0, 1), free}, 0, api.OK},
		"one twice, partly spent":                 {[]api.Tx{made(2), free, take(0), free}, 0, api.ErrTwice},
		"one twice, partly spent, the other part": {[]api.Tx{made(2), free, take(1), free}, 0, api.ErrTwice},
		"one twice, spent between and behind":     {[]api.Tx{made(2), free, take(0, 1), free, moved(a), take(1, 0)}, 0, api.OK},
		"one twice, spent otherwise behind":       {[]api.Tx{made(2), free, take(0, 1), free, moved(a), take(1), take(0)}, 0, api.OK},
		"one thrice":                              {[]api.Tx{made(2), free, take(0, 1), free, take(1), take(0), free}, 0, api.OK},
		"the first as one of the block":           {[]api.Tx{free, free}, 0, api.ErrTwice},
		"the first as one of the block, spent":    {[]api.Tx{free, free, take(0, 1)}, 0, api.OK},
		"the first as one of it, partly spent":    {[]api.Tx{free, free, take(1)}, 0, api.ErrTwice},
		"the first as an earlier one":             {[]api.Tx{first}, 100, api.ErrTwice},
		"the first as an earlier one, half spent": {[]api.Tx{first, moved(a), moved(b)}, 100, api.ErrTwice},
		"the first as an earlier one, spent":      {[]api.Tx{first, spendFirst}, 100, api.OK},
		"amounts ahead of twice":                  {[]api.Tx{first}, 99, api.ErrAmount},
		"twice ahead of the next":                 {[]api.Tx{made(2), free, free, moved(in(first, 0, "x"))}, 0, api.ErrTwice},
		"twice ahead of the first's amounts":      {[]api.Tx{made(2, out(1, "x")), free, free}, 0, api.ErrTwice},
		"without outputs, twice":                  {[]api.Tx{made(2), {}, {}}, 0, api.OK},
		"the first without outputs, as another":   {[]api.Tx{{}, {}}, 0, api.OK},
	} {
		try(t, what, x)
	}
}

// P13.2 and P13.3: one that was there before, spent since, comes again at another height, and goes.
func TestAgain(t *testing.T) {
	var s Set
	first := made(1, out(50, "a"))
	connect(t, &s, 1, 50, first)
	spend := moved(in(first, 0, "a"))
	connect(t, &s, 2, 0, made(2), spend)
	holds(t, &s, nil)
	connect(t, &s, 3, 50, first)
	holds(t, &s, map[api.Point]Coin{at(first, 0): {Out: out(50, "a"), Height: 3}})
	u := connect(t, &s, 4, 50, first, spend)
	holds(t, &s, map[api.Point]Coin{at(first, 0): {Out: out(50, "a"), Height: 4}})
	sameUndo(t, u, Undo{Points: []api.Point{at(first, 0)}, Coins: []Coin{{Out: out(50, "a"), Height: 3}}})
	disconnect(t, &s, u, first, spend)
	holds(t, &s, map[api.Point]Coin{at(first, 0): {Out: out(50, "a"), Height: 3}})
	disconnect(t, &s, Undo{}, first)
	holds(t, &s, nil)
}

// P13.2: the Undo has what was spent, in its order, coins of the same block, too.
func TestUndo(t *testing.T) {
	s, first := started(t)
	to := api.Tx{Ins: []api.In{in(first, 2, "c"), in(first, 0, "a")}, Outs: []api.Out{out(33, "d"), out(37, "e")}}
	last := api.Tx{Ins: []api.In{in(to, 1, "e"), in(first, 1, "b"), in(to, 0, "d")}}
	u := connect(t, s, 9, 0, made(2), to, last)
	sameUndo(t, u, Undo{
		Points: []api.Point{at(first, 2), at(first, 0), at(to, 1), at(first, 1), at(to, 0)},
		Coins: []Coin{
			{Out: out(20, "c"), Height: 4}, {Out: out(50, "a"), Height: 4},
			{Out: out(37, "e"), Height: 9}, {Out: out(30, "b"), Height: 4}, {Out: out(33, "d"), Height: 9},
		},
	})
	holds(t, s, nil)
	if u = connect(t, s, 10, 0, made(3)); len(u.Points) != 0 || len(u.Coins) != 0 {
		t.Errorf("Undo of nothing spent: %v", u)
	}
}

// P13.2: any height is kept.
func TestHeights(t *testing.T) {
	for _, height := range []int{0, 1, -1, 1 << 40, math.MinInt, math.MaxInt} {
		var s Set
		first := made(1, out(5, "a"))
		connect(t, &s, height, 5, first)
		to := moved(in(first, 0, "a"), out(5, "b"))
		u := connect(t, &s, height, 5, made(2, out(3, "c")), to)
		if got, _ := s.Get(at(to, 0)); got.Height != height || u.Coins[0].Height != height {
			t.Errorf("the height %d: %d and %d", height, got.Height, u.Coins[0].Height)
		}
	}
}

// P13.3: an Undo of wrong length, and no transactions.
func TestDisconnectShape(t *testing.T) {
	s, first := started(t)
	to := api.Tx{Ins: []api.In{in(first, 2, "c"), in(first, 0, "a")}, Outs: []api.Out{out(33, "d"), out(37, "e")}}
	txs := []api.Tx{made(2, out(7, "x")), to, moved(in(first, 1, "b"), out(1, "z"))}
	u := connect(t, s, 9, 10, txs...)
	after := s.All()
	if len(u.Points) != 3 || len(u.Coins) != 3 {
		t.Fatalf("Undo: %v", u)
	}
	point, coin := []api.Point{{Index: 5}}, []Coin{{Height: 6}}
	for what, x := range map[string]struct {
		txs []api.Tx
		u   Undo
	}{
		"no transactions":          {nil, u},
		"nothing at all":           {nil, Undo{}},
		"nothing spent":            {txs, Undo{}},
		"a point less":             {txs, Undo{u.Points[:2], u.Coins}},
		"a coin less":              {txs, Undo{u.Points, u.Coins[:2]}},
		"one less":                 {txs, Undo{u.Points[:2], u.Coins[:2]}},
		"a point more":             {txs, Undo{slices.Concat(u.Points, point), u.Coins}},
		"a coin more":              {txs, Undo{u.Points, slices.Concat(u.Coins, coin)}},
		"one more":                 {txs, Undo{slices.Concat(u.Points, point), slices.Concat(u.Coins, coin)}},
		"with the first's":         {txs, Undo{slices.Concat(point, u.Points), slices.Concat(coin, u.Coins)}},
		"a transaction less":       {txs[:2], u},
		"a transaction more":       {append(slices.Clone(txs), to), u},
		"no points":                {txs, Undo{nil, u.Coins}},
		"no coins":                 {txs, Undo{u.Points, nil}},
		"a point where none is":    {txs[:1], Undo{point, nil}},
		"a coin where none is":     {txs[:1], Undo{nil, coin}},
		"both where none is":       {txs[:1], Undo{point, coin}},
		"of the first, of nothing": {nil, Undo{point, coin}},
	} {
		if e := s.Disconnect(block(x.txs...), x.u); e != api.ErrShape {
			t.Errorf("Disconnect of %s: %v", what, e)
		}
		holds(t, s, after)
	}
	disconnect(t, s, u, txs...)
	want, _ := started(t)
	holds(t, s, want.All())
}

// thrown is a block that is nearly right: of coins that are there, or that it makes itself.
func thrown(d *sample.Dice, s *Set, mark int) []api.Tx {
	keys := []string{"a", "b", "c"}
	have := s.All()
	points := slices.SortedFunc(maps.Keys(have), func(a, b api.Point) int {
		return slices.Compare(append(a.Tx[:], byte(a.Index)), append(b.Tx[:], byte(b.Index)))
	})
	outs := func(most int64) []api.Out {
		var list []api.Out
		for range d.Below(4) {
			n := int64(d.Below(int(most/2) + 2))
			list, most = append(list, out(n, keys[d.Below(3)])), max(most-n, 0)
		}
		return list
	}
	txs := []api.Tx{made(seldom(d, 8, mark, 0), outs(50)...)}
	for range d.Below(5) {
		var x api.Tx
		var had int64
		for range d.Below(4) {
			if len(points) == 0 {
				break
			}
			i := d.Below(len(points))
			coin := have[points[i]]
			key := keys[slices.IndexFunc(keys, func(key string) bool { return lock(key) == coin.Lock })]
			if d.Below(40) == 0 {
				key += "x"
			}
			x.Ins = append(x.Ins, api.In{Point: points[i], Key: []byte(key)})
			had += coin.Amount
			if d.Below(30) != 0 {
				points = slices.Delete(points, i, i+1)
			}
		}
		x.Outs = outs(had)
		for i, out := range x.Outs {
			p := at(x, i)
			have[p] = Coin{Out: out, Height: mark}
			points = append(points, p)
		}
		txs = append(txs, x)
	}
	return txs
}

// seldom is n, but the other one every so often.
func seldom(d *sample.Dice, every, n, other int) int {
	if d.Below(every) == 0 {
		return other
	}
	return n
}

// P13.1 to P13.3: of any blocks each call tells what the chapter says; and all the way back.
func TestAny(t *testing.T) {
	told := map[api.Errno]int{}
	for seed := range 40 {
		d := sample.Dice(seed)
		s := &Set{}
		var blocks [][]api.Tx
		var undos []Undo
		var before []*Set
		for mark := range 100 {
			txs := thrown(&d, s, mark)
			was := s.Clone()
			want, spent, e := model(was.All(), txs, mark, 50)
			u, got := s.Connect(block(txs...), mark, 50)
			if got != e {
				t.Fatalf("Connect: %v, want %v", got, e)
			}
			told[e]++
			sameUndo(t, u, spent)
			holds(t, s, want)
			if e == api.OK {
				blocks, undos, before = append(blocks, txs), append(undos, u), append(before, was)
			}
			for len(blocks) > 0 && d.Below(10) == 0 {
				last := len(blocks) - 1
				disconnect(t, s, undos[last], blocks[last]...)
				holds(t, s, before[last].All())
				blocks, undos, before = blocks[:last], undos[:last], before[:last]
			}
		}
		for i := len(blocks) - 1; i >= 0; i-- {
			disconnect(t, s, undos[i], blocks[i]...)
			holds(t, s, before[i].All())
		}
		holds(t, s, nil)
	}
	for _, e := range []api.Errno{api.OK, api.ErrSpent, api.ErrLock, api.ErrAmount, api.ErrTwice} {
		if told[e] < 20 {
			t.Errorf("%v was told %d times", e, told[e])
		}
	}
}

// P1: whatever they are given, the calls end.
func TestAnyArguments(t *testing.T) {
	d := sample.Dice(4)
	numbers := []int{math.MinInt, -1, 0, 1, math.MaxInt}
	for _, raw := range [][]api.Tx{nil, {{}}, {{}, {}}, {d.Tx(3, 3, 300)}, d.Block(3, 5).Txs, {{}, {Ins: make([]api.In, 5000)}}, {{Outs: make([]api.Out, 5000)}, {}}} {
		for _, height := range numbers {
			for _, subsidy := range numbers {
				s, _ := started(t)
				before := s.All()
				if _, e := s.Connect(block(raw...), height, int64(subsidy)); e != api.OK {
					holds(t, s, before)
				}
				(&Set{}).Connect(block(raw...), height, int64(subsidy))
			}
		}
		ins := 0
		for i, x := range raw {
			if i > 0 {
				ins += len(x.Ins)
			}
		}
		for _, s := range []*Set{{}, {coins: map[api.Point]Coin{{}: {Height: 4}}}} {
			s.Disconnect(block(raw...), Undo{})
			s.Disconnect(block(raw...), Undo{make([]api.Point, ins), make([]Coin, ins)})
			s.Connect(block(raw...), 1, 50)
		}
	}
}

// P2: what is handed in isn't changed, its spare room neither, nor kept; what is answered is apart.
func TestApart(t *testing.T) {
	fresh := func() (api.Block, api.Tx) {
		first := made(1, out(50, "a"), out(30, "b"), out(20, "c"))
		to := api.Tx{Ins: []api.In{in(first, 2, "c"), in(first, 0, "a")}, Outs: []api.Out{out(33, "d"), out(37, "e")}}
		b := block(made(2, out(7, "x")), to, moved(in(to, 1, "e"), out(1, "z")))
		for i := range b.Txs {
			b.Txs[i].Ins = slices.Grow(b.Txs[i].Ins, 5)
			b.Txs[i].Outs = slices.Grow(b.Txs[i].Outs, 5)
		}
		b.Txs = slices.Grow(b.Txs, 5)
		return b, first
	}
	s, _ := started(t)
	before := s.All()
	b, _ := fresh()
	want, _ := fresh()
	u, e := s.Connect(b, 9, 10)
	if e != api.OK || !reflect.DeepEqual(b, want) {
		t.Fatalf("Connect: %v, or the block is changed", e)
	}
	spare(t, b)
	after := s.All()
	for _, x := range b.Txs {
		sample.ChangeTx(x)
	}
	holds(t, s, after)
	twin, _ := started(t)
	other, _ := twin.Connect(want, 9, 10)
	sameUndo(t, other, u)
	kept := Undo{slices.Clone(u.Points), slices.Clone(u.Coins)}
	sample.Change(other.Points, api.Point{Index: 7})
	sample.Change(other.Coins, Coin{Height: 7})
	sameUndo(t, u, kept)
	holds(t, twin, after)

	u.Points, u.Coins = slices.Grow(u.Points, 5), slices.Grow(u.Coins, 5)
	if e := s.Disconnect(want, u); e != api.OK {
		t.Fatalf("Disconnect: %v", e)
	}
	sameUndo(t, u, kept)
	spare(t, want)
	if u.Points[:cap(u.Points)][len(u.Points)] != (api.Point{}) || u.Coins[:cap(u.Coins)][len(u.Coins)] != (Coin{}) {
		t.Error("an Undo's spare room is changed")
	}
	sample.Change(u.Points, api.Point{Index: 7})
	sample.Change(u.Coins, Coin{Height: 7})
	holds(t, s, before)
	again, _ := fresh()
	if !reflect.DeepEqual(want, again) {
		t.Error("the block is changed")
	}
}

// spare asks whether a block's spare room is as it was.
func spare(t *testing.T, b api.Block) {
	t.Helper()
	if x := b.Txs[:cap(b.Txs)][len(b.Txs)]; x.Ins != nil || x.Outs != nil {
		t.Error("the spare room of the transactions is changed")
	}
	for i, x := range b.Txs {
		if in := x.Ins[:cap(x.Ins)][len(x.Ins)]; in.Key != nil || in.Point != (api.Point{}) {
			t.Errorf("the spare room of transaction %d's inputs is changed", i)
		}
		if x.Outs[:cap(x.Outs)][len(x.Outs)] != (api.Out{}) {
			t.Errorf("the spare room of transaction %d's outputs is changed", i)
		}
	}
}
