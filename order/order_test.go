package order_test

import (
	"bytes"
	"math"
	"math/rand"
	"slices"
	"testing"

	"paybook/api"
	"paybook/order"
	"paybook/pack"
	"paybook/plan"
)

// The edges of each number of an order: about the bounds, and numbers that fewer bits would wrap to right ones.
var (
	subs  = []int{math.MinInt, -1, 0, 1, 30, 31, 32, 33, 256, 1 << 16, 1<<32 + 1, math.MaxInt}
	plans = []int{math.MinInt, -1, 0, 1, 6, 7, 8, 9, 256, 1 << 16, 1<<32 + 1, math.MaxInt}
	days  = []int{math.MinInt, -1, 0, 1, 2, 31, 32, 59, 60, 61, 256 + 1, 1<<16 + 1, 1<<32 + 1, math.MaxInt}
)

// The edges of each number of a notice.
var (
	kinds    = []byte{0, 1, 2, 3, 4, 5, 6, 7, 128, 255}
	cycles   = []int{math.MinInt, -1, 0, 4, 3652057, 3652058, 3652059, 1 << 32, math.MaxInt}
	tries    = []int{math.MinInt, -1, 0, 1, 99, 100, 101, 256, 1 << 32, math.MaxInt}
	amounts  = []int64{math.MinInt64, -1, 0, 500, 1125899906842623, 1125899906842624, 1125899906842625, math.MaxInt64}
	verdicts = []byte{0, 1, 2, 3, 4, 128, 255}
)

// ordinary is an answer that may be.
var ordinary = api.Notice{Kind: api.Charge, Sub: 3, Cycle: 4, Try: 1, Amount: 500, Verdict: api.Soft}

// notices are all of these edges, told to f.
func notices(f func(api.Notice)) {
	for _, sub := range subs {
		for _, cycle := range cycles {
			for _, try := range tries {
				for _, amount := range amounts {
					f(api.Notice{Kind: api.Ship, Sub: sub, Cycle: cycle, Try: try, Amount: amount, Verdict: api.Yes})
				}
			}
		}
	}
	for kind := range 256 {
		for verdict := range 256 {
			n := ordinary
			n.Kind, n.Verdict = byte(kind), byte(verdict)
			f(n)
		}
	}
}

// key is what is to come of Key.
func key(n api.Notice) bool {
	return n.Sub >= 0 && n.Sub <= 31 && n.Cycle >= 0 && n.Cycle <= 3652058 && n.Try >= 0 && n.Try <= 100 && n.Amount >= 0 && n.Amount <= 1125899906842624
}

// told: does Get tell a notice that Put has put?
func told(n api.Notice) bool {
	return n.Kind >= 1 && n.Kind <= 5 && n.Verdict <= 3 && key(n)
}

// samples are an order of each kind, and one at each bound.
func samples() []api.Order {
	return []api.Order{
		{Kind: api.Define, P: api.Plan{Price: 999, Unit: api.Months, Every: 3, Trial: 14, Goods: true}},
		{Kind: api.Define, P: api.Plan{Every: 1}},
		{Kind: api.Define, P: api.Plan{Price: api.MaxPrice, Unit: api.Years, Every: api.MaxEvery, Trial: api.MaxTrial, Goods: true, Last: true}},
		{Kind: api.Open}, {Kind: api.Open, Sub: 5, Plan: 2}, {Kind: api.Open, Sub: 31, Plan: 7},
		{Kind: api.Change}, {Kind: api.Change, Sub: 5, Plan: 2}, {Kind: api.Change, Sub: 31, Plan: 7},
		{Kind: api.Pause}, {Kind: api.Pause, Sub: 31},
		{Kind: api.Resume}, {Kind: api.Resume, Sub: 31},
		{Kind: api.Skip}, {Kind: api.Skip, Sub: 31},
		{Kind: api.Cancel}, {Kind: api.Cancel, Sub: 31},
		{Kind: api.Card}, {Kind: api.Card, Sub: 31},
		{Kind: api.Pass, N: 1}, {Kind: api.Pass, N: 60},
		{Kind: api.Hear, A: ordinary},
		{Kind: api.Hear, A: api.Notice{Kind: api.Charge, Verdict: api.Yes}},
		{Kind: api.Hear, A: api.Notice{Kind: api.Ship, Sub: 31, Cycle: api.MaxDay, Try: 100, Amount: api.MaxMoney, Verdict: api.No}},
	}
}

// field is one of an order's: what it is called, which kinds name it, and how it comes to be something.
type field struct {
	name  string
	kinds []byte
	set   func(*api.Order)
}

// fields are all of an order's but Kind.
func fields() []field {
	define, hear := []byte{api.Define}, []byte{api.Hear}
	return []field{
		{"Sub", []byte{api.Open, api.Change, api.Pause, api.Resume, api.Skip, api.Cancel, api.Card}, func(o *api.Order) { o.Sub = 1 }},
		{"Plan", []byte{api.Open, api.Change}, func(o *api.Order) { o.Plan = 1 }},
		{"N", []byte{api.Pass}, func(o *api.Order) { o.N = 1 }},
		{"P.Price", define, func(o *api.Order) { o.P.Price = 1 }},
		{"P.Unit", define, func(o *api.Order) { o.P.Unit = 1 }},
		{"P.Every", define, func(o *api.Order) { o.P.Every = 1 }},
		{"P.Trial", define, func(o *api.Order) { o.P.Trial = 1 }},
		{"P.Goods", define, func(o *api.Order) { o.P.Goods = true }},
		{"P.Last", define, func(o *api.Order) { o.P.Last = true }},
		{"A.Kind", hear, func(o *api.Order) { o.A.Kind = 1 }},
		{"A.Sub", hear, func(o *api.Order) { o.A.Sub = 1 }},
		{"A.Cycle", hear, func(o *api.Order) { o.A.Cycle = 1 }},
		{"A.Try", hear, func(o *api.Order) { o.A.Try = 1 }},
		{"A.Amount", hear, func(o *api.Order) { o.A.Amount = 1 }},
		{"A.Verdict", hear, func(o *api.Order) { o.A.Verdict = 1 }},
	}
}

// checkRight: Right answers e of an order; if that is OK, Encode and Decode lead to it, else Encode makes nothing of it.
func checkRight(t *testing.T, o api.Order, e api.Errno) {
	t.Helper()
	if got := order.Right(o); got != e {
		t.Errorf("Right(%v) = %d; asked for is %d", o, got, e)
	}
	p := order.Encode(o)
	if e != api.OK {
		if len(p) != 0 {
			t.Errorf("Encode(%v) = %x; asked for is none", o, p)
		}
		return
	}
	if got, e := order.Decode(p); got != o || e != api.OK {
		t.Errorf("Decode of Encode(%v), that is %x: %v, %d", o, p, got, e)
	}
}

// checkNone: Decode answers ErrForm, and no order.
func checkNone(t *testing.T, p []byte) {
	t.Helper()
	if o, e := order.Decode(p); o != (api.Order{}) || e != api.ErrForm {
		t.Errorf("Decode(%x) = %v, %d; asked for is ErrForm", p, o, e)
	}
}

// argUnless is OK, or ErrArg.
func argUnless(right bool) api.Errno {
	if right {
		return api.OK
	}
	return api.ErrArg
}

// P10.1: Key, at all edges together; kind and verdict are nothing to it.
func TestKey(t *testing.T) {
	notices(func(n api.Notice) {
		if got := order.Key(n); got != key(n) {
			t.Errorf("Key(%v) = %t", n, got)
		}
	})
	if !order.Key(api.Notice{}) {
		t.Error("Key of nothing")
	}
}

// P10.1, P10.2: an order of each kind, and at each bound, is Right, and comes back.
func TestRightSamples(t *testing.T) {
	for _, o := range samples() {
		checkRight(t, o, api.OK)
	}
}

// P10.1: of other kinds no order is Right, whatever it has.
func TestRightOtherKinds(t *testing.T) {
	for kind := range 256 {
		if kind >= 1 && kind <= 10 {
			continue
		}
		for _, o := range append(samples(), api.Order{}) {
			o.Kind = byte(kind)
			checkRight(t, o, api.ErrArg)
		}
	}
}

// P10.1: what its kind doesn't name makes an order wrong, whichever it is; what it names doesn't.
func TestRightUnnamed(t *testing.T) {
	for _, o := range samples() {
		for _, f := range fields() {
			if slices.Contains(f.kinds, o.Kind) {
				continue
			}
			x := o
			f.set(&x)
			if e := order.Right(x); e != api.ErrArg {
				t.Errorf("Right(%v) = %d, with %s", x, e, f.name)
			}
			checkRight(t, x, api.ErrArg)
		}
	}
	for _, o := range samples() {
		x := o
		x.Sub, x.Plan, x.N, x.P.Price, x.A.Kind = -1, -1, -1, -1, 255
		checkRight(t, x, api.ErrArg)
	}
}

// P10.1: Sub, Plan and N at all edges.
func TestRightEdges(t *testing.T) {
	for _, sub := range subs {
		rightSub := sub >= 0 && sub <= 31
		for _, kind := range []byte{api.Open, api.Change} {
			for _, plan := range plans {
				checkRight(t, api.Order{Kind: kind, Sub: sub, Plan: plan}, argUnless(rightSub && plan >= 0 && plan <= 7))
			}
		}
		for _, kind := range []byte{api.Pause, api.Resume, api.Skip, api.Cancel, api.Card} {
			checkRight(t, api.Order{Kind: kind, Sub: sub}, argUnless(rightSub))
		}
	}
	for _, n := range days {
		checkRight(t, api.Order{Kind: api.Pass, N: n}, argUnless(n >= 1 && n <= 60))
	}
}

// P10.1: Hear at all edges of its answer; a notice that asks is none.
func TestRightHear(t *testing.T) {
	notices(func(n api.Notice) {
		checkRight(t, api.Order{Kind: api.Hear, A: n}, argUnless(told(n) && n.Verdict != 0))
	})
	checkRight(t, api.Order{Kind: api.Hear}, api.ErrArg)
}

// P10.1: of Define plan.Right's errors; ErrArg ahead of them, if it has something else.
func TestRightDefine(t *testing.T) {
	for _, c := range []struct {
		p    api.Plan
		want api.Errno
	}{
		{api.Plan{Price: 999, Every: 3}, api.OK},
		{api.Plan{}, api.ErrArg},
		{api.Plan{Unit: 4, Every: 1}, api.ErrArg},
		{api.Plan{Every: 1001}, api.ErrArg},
		{api.Plan{Every: 1, Trial: 1001}, api.ErrArg},
		{api.Plan{Every: 1, Trial: -1}, api.ErrArg},
		{api.Plan{Every: 1, Price: -1}, api.ErrMoney},
		{api.Plan{Every: 1, Price: 1073741825}, api.ErrMoney},
		{api.Plan{Every: 1, Price: math.MaxInt64}, api.ErrMoney},
		{api.Plan{Price: -1}, api.ErrArg},
	} {
		o := api.Order{Kind: api.Define, P: c.p}
		checkRight(t, o, c.want)
		if e := plan.Right(c.p); e != c.want {
			t.Errorf("plan.Right(%v) = %d", c.p, e)
		}
		for _, f := range fields() {
			if !slices.Contains(f.kinds, api.Define) {
				x := o
				f.set(&x)
				checkRight(t, x, api.ErrArg)
			}
		}
	}
}

// P10.2: Encode, told by hand.
func TestEncodeByHand(t *testing.T) {
	for _, c := range []struct {
		o    api.Order
		want []byte
	}{
		{api.Order{Kind: api.Pass, N: 7}, []byte{0x12, 0x0e}},
		{api.Order{Kind: api.Pass, N: 60}, []byte{18, 64 + 56, 1}},
		{api.Order{Kind: api.Define, P: api.Plan{Price: 999, Unit: api.Months, Every: 3, Trial: 14, Goods: true}}, []byte{2, 0x4e, 0x1f, 4, 6, 28, 2, 0}},
		{api.Order{Kind: api.Define, P: api.Plan{Price: 5, Unit: api.Years, Every: 1, Last: true}}, []byte{2, 10, 6, 2, 0, 0, 2}},
		{api.Order{Kind: api.Open, Sub: 1, Plan: 2}, []byte{4, 2, 4}},
		{api.Order{Kind: api.Change, Sub: 31, Plan: 7}, []byte{6, 62, 14}},
		{api.Order{Kind: api.Pause, Sub: 3}, []byte{8, 6}},
		{api.Order{Kind: api.Resume, Sub: 3}, []byte{10, 6}},
		{api.Order{Kind: api.Skip}, []byte{12, 0}},
		{api.Order{Kind: api.Cancel, Sub: 31}, []byte{14, 62}},
		{api.Order{Kind: api.Card, Sub: 1}, []byte{16, 2}},
		{api.Order{Kind: api.Hear, A: ordinary}, []byte{20, 2, 6, 8, 2, 64 + 40, 15, 4}},
		{api.Order{Kind: api.Hear, A: api.Notice{Kind: api.Ship, Sub: 2, Cycle: 33, Verdict: api.No}}, []byte{20, 10, 4, 64 + 2, 1, 0, 0, 6}},
	} {
		if got := order.Encode(c.o); !bytes.Equal(got, c.want) {
			t.Errorf("Encode(%v) = %x; asked for is %x", c.o, got, c.want)
		}
		if got, e := order.Decode(c.want); got != c.o || e != api.OK {
			t.Errorf("Decode(%x) = %v, %d", c.want, got, e)
		}
	}
}

// P10.2: what is encoded is a box of the kind and of what it names, in order.
func TestEncodeIsBox(t *testing.T) {
	for _, o := range samples() {
		b := pack.New().Put(int64(o.Kind))
		switch o.Kind {
		case api.Define:
			plan.Put(b, o.P)
		case api.Open, api.Change:
			b.Put(int64(o.Sub), int64(o.Plan))
		case api.Pass:
			b.Put(int64(o.N))
		case api.Hear:
			order.Put(b, o.A)
		default:
			b.Put(int64(o.Sub))
		}
		if got := order.Encode(o); !bytes.Equal(got, b.Done()) {
			t.Errorf("Encode(%v) = %x; asked for is %x", o, got, b.Done())
		}
	}
}

// P10.2: of all short bytes Decode makes what is encoded of an order, and nothing else. (All orders but those of a plan or an answer have three bytes at most.)
func TestDecodeAllShort(t *testing.T) {
	want := map[string]api.Order{}
	for _, kind := range []byte{api.Open, api.Change, api.Pause, api.Resume, api.Skip, api.Cancel, api.Card, api.Pass} {
		for sub := range 40 {
			for plan := range 12 {
				for n := range 80 {
					o := api.Order{Kind: kind, Sub: sub, Plan: plan, N: n}
					if order.Right(o) == api.OK {
						want[string(order.Encode(o))] = o
					}
				}
			}
		}
	}
	if len(want) != 2*32*8+5*32+60 {
		t.Fatalf("%d orders", len(want))
	}
	check := func(p []byte) {
		o, e := order.Decode(p)
		w, ok := want[string(p)]
		if o != w || ok != (e == api.OK) || !ok && e != api.ErrForm {
			t.Fatalf("Decode(%x) = %v, %d; asked for is %v, %t", p, o, e, w, ok)
		}
	}
	check(nil)
	check([]byte{})
	for a := range 256 {
		check([]byte{byte(a)})
		for b := range 256 {
			check([]byte{byte(a), byte(b)})
			for c := range 256 {
				check([]byte{byte(a), byte(b), byte(c)})
			}
		}
	}
}

// P10.2: an order that ends too early, or has something behind it, is none.
func TestDecodeShortAndLong(t *testing.T) {
	for _, o := range samples() {
		p := order.Encode(o)
		for size := range p {
			checkNone(t, p[:size])
		}
		for _, behind := range [][]byte{{0}, {1}, {2}, {64}, {255}, {0, 0}, p} {
			checkNone(t, append(slices.Clone(p), behind...))
		}
	}
}

// P10.2: one of its numbers by one that can't be is none: beyond its bounds, or that fewer bits would wrap to a right one.
func TestDecodeOtherNumbers(t *testing.T) {
	others := []int64{math.MinInt64, -1 << 32, -256, -1, 0, 1, 2, 3, 4, 5, 6, 7, 8, 9, 10, 11, 31, 32, 60, 61, 100, 101, 256, 257, 258, 266, 1 << 16, 1<<16 + 1, 3652058, 3652059, 1 << 30, 1<<30 + 1, 1 << 32, 1<<32 + 1, 1<<32 + 9, 1 << 50, 1<<50 + 1, math.MaxInt64}
	for _, o := range samples() {
		l := numbers(order.Encode(o))
		for at := range l {
			for _, n := range others {
				x := slices.Clone(l)
				x[at] = n
				checkDecode(t, pack.New().Put(x...).Done())
			}
		}
	}
}

// numbers are those of a box.
func numbers(p []byte) []int64 {
	var l []int64
	for b := pack.Of(p); b.Left() > 0; {
		l = append(l, b.Get(math.MinInt64, math.MaxInt64))
	}
	return l
}

// checkDecode: of bytes either an order that is Right, and that Encode makes of just these, or ErrForm, where the numbers make no right order; whether it is one.
func checkDecode(t *testing.T, p []byte) bool {
	t.Helper()
	want, ok := byNumbers(numbers(p))
	o, e := order.Decode(p)
	if ok != (e == api.OK) || o != want || !ok && e != api.ErrForm {
		t.Errorf("Decode(%x) = %v, %d; asked for is %v, %t", p, o, e, want, ok)
	}
	if e == api.OK && (order.Right(o) != api.OK || !bytes.Equal(order.Encode(o), p)) {
		t.Errorf("Decode(%x) = %v, of which Encode makes %x", p, o, order.Encode(o))
	}
	return ok
}

// byNumbers is the order of which a box has these numbers; false: there is none.
func byNumbers(l []int64) (api.Order, bool) {
	if len(l) == 0 {
		return api.Order{}, false
	}
	o := api.Order{Kind: byte(l[0])}
	switch kind, size := l[0], len(l); {
	case kind == 1 && size == 7:
		o.P = api.Plan{Price: l[1], Unit: byte(l[2]), Every: int(l[3]), Trial: int(l[4]), Goods: l[5] == 1, Last: l[6] == 1}
	case (kind == 2 || kind == 3) && size == 3:
		o.Sub, o.Plan = int(l[1]), int(l[2])
	case kind >= 4 && kind <= 8 && size == 2:
		o.Sub = int(l[1])
	case kind == 9 && size == 2:
		o.N = int(l[1])
	case kind == 10 && size == 7:
		o.A = api.Notice{Kind: byte(l[1]), Sub: int(l[2]), Cycle: int(l[3]), Try: int(l[4]), Amount: l[5], Verdict: byte(l[6])}
	default:
		return api.Order{}, false
	}
	// What has been cut to fit is another number.
	if order.Right(o) != api.OK || !slices.Equal(numbers(order.Encode(o)), l) {
		return api.Order{}, false
	}
	return o, true
}

// P10.2: numbers that no box makes so are in no order, at any place.
func TestDecodeForm(t *testing.T) {
	for _, o := range samples() {
		l := numbers(order.Encode(o))
		for at := range l {
			for _, wrong := range [][]byte{
				{128}, {255}, bytes.Repeat([]byte{127}, 11),
				append(long(l[at]), 0), // a last group of 0 that isn't the only one
			} {
				p := pack.New().Put(l[:at]...).Done()
				p = append(p, wrong...)
				checkNone(t, append(p, pack.New().Put(l[at+1:]...).Done()...))
			}
		}
	}
}

// long is a number's bytes, with a mark on the last one too.
func long(n int64) []byte {
	p := pack.New().Put(n).Done()
	p[len(p)-1] += 64
	return p
}

// P10.2, P1: of any bytes either an order, that Encode makes of just these, or ErrForm.
func TestDecodeAny(t *testing.T) {
	r := rand.New(rand.NewSource(10))
	all := samples()
	orders := 0
	for range 300000 {
		p := order.Encode(all[r.Intn(len(all))])
		for range 1 + r.Intn(2) {
			switch at := r.Intn(len(p) + 1); {
			case at == len(p) || r.Intn(6) == 0:
				p = slices.Insert(p, at, byte(r.Intn(130)))
			case r.Intn(6) == 0:
				p = slices.Delete(p, at, at+1)
			default:
				p[at] = byte(r.Intn(256)) >> r.Intn(3)
			}
		}
		o, e := order.Decode(p)
		if e == api.OK {
			orders++
			if order.Right(o) != api.OK || !bytes.Equal(order.Encode(o), p) {
				t.Fatalf("Decode(%x) = %v, of which Encode makes %x", p, o, order.Encode(o))
			}
		} else if o != (api.Order{}) || e != api.ErrForm {
			t.Fatalf("Decode(%x) = %v, %d", p, o, e)
		}
	}
	if orders < 1000 {
		t.Errorf("%d orders", orders)
	}
}

// P1: bytes in any number are none.
func TestDecodeMany(t *testing.T) {
	for _, c := range []byte{0, 2, 20, 64, 127, 255} {
		checkNone(t, bytes.Repeat([]byte{c}, 1<<20))
	}
}

// P10.2: Put, told by hand, of notices that aren't right, too.
func TestPutByHand(t *testing.T) {
	for _, c := range []struct {
		n    api.Notice
		want []byte
	}{
		{api.Notice{}, []byte{0, 0, 0, 0, 0, 0}},
		{ordinary, []byte{2, 6, 8, 2, 64 + 40, 15, 4}},
		{api.Notice{Kind: 1, Sub: 2, Cycle: 3, Try: 4, Amount: 5, Verdict: 6}, []byte{2, 4, 6, 8, 10, 12}},
		{api.Notice{Kind: 31, Sub: -1, Cycle: -2, Try: -3, Amount: -4, Verdict: 255}, []byte{62, 1, 3, 5, 7, 64 + 62, 7}},
	} {
		b := pack.New()
		order.Put(b, c.n)
		if got := b.Done(); !bytes.Equal(got, c.want) {
			t.Errorf("Put(%v): %x; asked for is %x", c.n, got, c.want)
		}
	}
}

// P10.2: a notice is put behind what is in the box, and is taken out ahead of what is behind it.
func TestPutBehind(t *testing.T) {
	m := api.Notice{Kind: api.Release, Sub: 9, Cycle: 70}
	b := pack.New().Put(100)
	order.Put(b, ordinary)
	order.Put(b, m)
	b.Bytes([]byte("hi"))
	x := pack.Of(b.Done())
	if n := x.Get(100, 100); n != 100 {
		t.Errorf("%d, %d", n, x.Fault())
	}
	if got := order.Get(x); got != ordinary {
		t.Errorf("%v, %d", got, x.Fault())
	}
	if got := order.Get(x); got != m {
		t.Errorf("%v, %d", got, x.Fault())
	}
	if s := x.GetBytes(2); string(s) != "hi" || x.End() != api.OK {
		t.Errorf("%q, %d", s, x.End())
	}
}

// P10.2: Put and Get at all edges: of kinds Charge to Ship, verdicts Ask to No, and Key a notice comes back; of any other one none is told, and the box has a fault.
func TestPutGetEdges(t *testing.T) {
	check := func(n api.Notice) {
		b := pack.New()
		order.Put(b, n)
		x := pack.Of(b.Done())
		got := order.Get(x)
		if told(n) {
			if got != n || x.End() != api.OK {
				t.Errorf("Get of Put(%v) = %v, %d", n, got, x.End())
			}
		} else if got != (api.Notice{}) || x.Fault() == api.OK {
			t.Errorf("Get of Put(%v) = %v, %d", n, got, x.Fault())
		}
	}
	notices(check)
	for _, kind := range kinds {
		for _, verdict := range verdicts {
			for _, sub := range subs {
				check(api.Notice{Kind: kind, Verdict: verdict, Sub: sub, Cycle: api.MaxDay, Try: 100, Amount: api.MaxMoney})
			}
		}
	}
}

// P10.2: a box that ends within a notice, or has a number otherwise than Put, or one that a byte would wrap to a right one, has a fault, at every place; and no notice is told.
func TestGetFaults(t *testing.T) {
	check := func(p []byte) {
		t.Helper()
		b := pack.Of(p)
		if got := order.Get(b); got != (api.Notice{}) || b.Fault() == api.OK {
			t.Errorf("Get of %x = %v, %d", p, got, b.Fault())
		}
	}
	l := []int64{1, 31, api.MaxDay, 100, api.MaxMoney, 3}
	whole := pack.New().Put(l...).Done()
	for size := range whole {
		check(whole[:size])
	}
	for at := range l {
		ahead, behind := pack.New().Put(l[:at]...).Done(), pack.New().Put(l[at+1:]...).Done()
		for _, wrong := range [][]byte{
			{128}, {255}, append(long(l[at]), 0), bytes.Repeat([]byte{127}, 11),
			pack.New().Put(l[at] + 1<<8).Done(), pack.New().Put(l[at] + 1<<32).Done(), pack.New().Put(l[at] + 1<<62).Done(), pack.New().Put(-1).Done(), pack.New().Put(l[at] - 1<<62).Done(),
		} {
			check(slices.Concat(ahead, wrong, behind))
		}
	}
}

// P10.2: of a box that has a fault no notice is told, and the fault stays.
func TestGetBehindFault(t *testing.T) {
	b := pack.New().Put(9)
	order.Put(b, ordinary)
	b.Get(10, 10)
	if got := order.Get(b); got != (api.Notice{}) || b.Fault() != api.ErrArg {
		t.Errorf("%v, %d", got, b.Fault())
	}
}

// P1: of a nil box Put and Get end.
func TestNilBox(t *testing.T) {
	order.Put(nil, ordinary)
	order.Get(nil)
}

// The rule of memory: what is handed in to Decode stays as it is, and what Encode answers is nobody else's.
func TestMemory(t *testing.T) {
	for _, o := range samples() {
		p := order.Encode(o)
		was := slices.Clone(p)
		order.Decode(p)
		if !bytes.Equal(p, was) {
			t.Errorf("Decode(%x) has made it %x", was, p)
		}
		p = append(p, 1, 2, 3)
		p[0] = 99
		if again := order.Encode(o); !bytes.Equal(again, was) {
			t.Errorf("Encode(%v) = %x, then %x", o, was, again)
		}
	}
}

// P2: the same arguments have the same answers, whatever was asked between.
func TestAnswersDependOnArguments(t *testing.T) {
	o := api.Order{Kind: api.Hear, A: ordinary}
	p := order.Encode(o)
	order.Right(api.Order{})
	order.Encode(api.Order{Kind: api.Pass, N: 61})
	order.Decode([]byte{255})
	order.Get(pack.Of(nil))
	if got, e := order.Decode(p); got != o || e != api.OK || !bytes.Equal(order.Encode(o), p) || order.Right(o) != api.OK || !order.Key(ordinary) {
		t.Errorf("%v, %d", got, e)
	}
}
