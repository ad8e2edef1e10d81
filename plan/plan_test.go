package plan_test

import (
	"bytes"
	"math"
	"math/big"
	"math/rand"
	"slices"
	"testing"

	"paybook/api"
	"paybook/pack"
	"paybook/plan"
)

// The edges of each number of a plan: about the bounds, and numbers that fewer bits would wrap to right ones.
var (
	prices = []int64{math.MinInt64, -api.MaxPrice, -1, 0, 1, 999, 1 << 29, api.MaxPrice - 1, api.MaxPrice, api.MaxPrice + 1, 1 << 32, api.MaxMoney, math.MaxInt64}
	units  = []byte{api.Days, api.Weeks, api.Months, api.Years, api.Years + 1, 128, 255}
	everys = []int{math.MinInt, -1, 0, 1, 2, 3, 999, api.MaxEvery, api.MaxEvery + 1, 1<<8 + 1<<10, 1<<16 + 1, 1<<32 + 1, math.MaxInt}
	trials = []int{math.MinInt, -1, 0, 1, 14, 999, api.MaxTrial, api.MaxTrial + 1, 1 << 16, 1 << 32, math.MaxInt}
)

// edges are plans of all these, told to f.
func edges(f func(api.Plan)) {
	for _, price := range prices {
		for _, unit := range units {
			for _, every := range everys {
				for _, trial := range trials {
					for flags := range 4 {
						f(api.Plan{Price: price, Unit: unit, Every: every, Trial: trial, Goods: flags&1 != 0, Last: flags&2 != 0})
					}
				}
			}
		}
	}
}

// right is what is to come of Right.
func right(p api.Plan) api.Errno {
	switch {
	case p.Unit > 3, p.Every < 1, p.Every > 1000, p.Trial < 0, p.Trial > 1000:
		return api.ErrArg
	case p.Price < 0, p.Price > 1073741824:
		return api.ErrMoney
	}
	return api.OK
}

// number is the bytes of a number, by layer 5.
func number(n int64) []byte {
	return pack.New().Put(n).Done()
}

// flag is the number of a flag.
func flag(on bool) int64 {
	if on {
		return 1
	}
	return 0
}

// numbers are those of a plan, in order.
func numbers(p api.Plan) []int64 {
	return []int64{p.Price, int64(p.Unit), int64(p.Every), int64(p.Trial), flag(p.Goods), flag(p.Last)}
}

// bytesOf is what a plan becomes.
func bytesOf(p api.Plan) []byte {
	b := pack.New()
	plan.Put(b, p)
	return b.Done()
}

// P9.1: Right, of ordinary plans, one edge at a time.
func TestRight(t *testing.T) {
	for _, c := range []struct {
		p    api.Plan
		want api.Errno
	}{
		{api.Plan{Price: 999, Unit: api.Months, Every: 3, Trial: 14, Goods: true}, api.OK},
		{api.Plan{Every: 1}, api.OK},
		{api.Plan{Price: api.MaxPrice, Unit: api.Years, Every: api.MaxEvery, Trial: api.MaxTrial, Goods: true, Last: true}, api.OK},
		{api.Plan{}, api.ErrArg},
		{api.Plan{Unit: api.Years + 1, Every: 1}, api.ErrArg},
		{api.Plan{Every: -1}, api.ErrArg},
		{api.Plan{Every: api.MaxEvery + 1}, api.ErrArg},
		{api.Plan{Every: 1, Trial: -1}, api.ErrArg},
		{api.Plan{Every: 1, Trial: api.MaxTrial + 1}, api.ErrArg},
		{api.Plan{Every: 1, Price: -1}, api.ErrMoney},
		{api.Plan{Every: 1, Price: api.MaxPrice + 1}, api.ErrMoney},
		// ErrArg goes ahead of ErrMoney.
		{api.Plan{Price: -1}, api.ErrArg},
		{api.Plan{Price: api.MaxPrice + 1, Every: 1, Trial: -1}, api.ErrArg},
	} {
		if got := plan.Right(c.p); got != c.want {
			t.Errorf("Right(%v) = %d; asked for is %d", c.p, got, c.want)
		}
	}
}

// P9.1: Right, at all edges together, and of every unit.
func TestRightEdges(t *testing.T) {
	check := func(p api.Plan) {
		if got := plan.Right(p); got != right(p) {
			t.Errorf("Right(%v) = %d; asked for is %d", p, got, right(p))
		}
	}
	edges(check)
	for unit := range 256 {
		check(api.Plan{Price: 1, Unit: byte(unit), Every: 1})
	}
}

// P9.1: Put, told by hand.
func TestPutByHand(t *testing.T) {
	for _, c := range []struct {
		p    api.Plan
		want []byte
	}{
		{api.Plan{Price: 999, Unit: api.Months, Every: 3, Trial: 14, Goods: true}, []byte{0x4e, 0x1f, 4, 6, 28, 2, 0}},
		{api.Plan{Price: 5, Unit: api.Years, Every: 1, Last: true}, []byte{10, 6, 2, 0, 0, 2}},
		{api.Plan{Unit: api.Weeks, Every: 31, Trial: 32}, []byte{0, 2, 62, 0x40, 1, 0, 0}},
		{api.Plan{}, []byte{0, 0, 0, 0, 0, 0}},
	} {
		if got := bytesOf(c.p); !bytes.Equal(got, c.want) {
			t.Errorf("Put(%v): %x; asked for is %x", c.p, got, c.want)
		}
	}
}

// P9.1: a plan is put behind what is in the box, and is taken out ahead of what is behind it.
func TestPutBehind(t *testing.T) {
	p := api.Plan{Price: 5, Unit: api.Years, Every: 1, Last: true}
	q := api.Plan{Price: 7, Every: 2, Goods: true}
	b := pack.New().Put(100)
	plan.Put(b, p)
	plan.Put(b, q)
	b.Bytes([]byte("hi"))
	x := pack.Of(b.Done())
	if n := x.Get(100, 100); n != 100 {
		t.Errorf("%d, %d", n, x.Fault())
	}
	if got := plan.Get(x); got != p {
		t.Errorf("%v, %d", got, x.Fault())
	}
	if got := plan.Get(x); got != q {
		t.Errorf("%v, %d", got, x.Fault())
	}
	if s := x.GetBytes(2); string(s) != "hi" || x.End() != api.OK {
		t.Errorf("%q, %d", s, x.End())
	}
}

// P9.1: Put and Get at all edges: a plan that is Right comes back whole; of any other one no plan is told, and the box has a fault.
func TestPutGetEdges(t *testing.T) {
	edges(func(p api.Plan) {
		made := bytesOf(p)
		if want := pack.New().Put(numbers(p)...).Done(); !bytes.Equal(made, want) {
			t.Errorf("Put(%v): %x; asked for is %x", p, made, want)
		}
		b := pack.Of(made)
		got := plan.Get(b)
		if right(p) == api.OK {
			if got != p || b.End() != api.OK {
				t.Errorf("Get of Put(%v) = %v, %d", p, got, b.End())
			}
		} else if got != (api.Plan{}) || b.Fault() != api.ErrArg {
			t.Errorf("Get of Put(%v) = %v, %d", p, got, b.Fault())
		}
	})
}

// P9.1: a box that ends within a plan has a fault, wherever it ends.
func TestGetShort(t *testing.T) {
	for _, p := range []api.Plan{
		{Price: 999, Unit: api.Months, Every: 3, Trial: 14, Goods: true, Last: true},
		{Price: api.MaxPrice, Unit: api.Years, Every: api.MaxEvery, Trial: api.MaxTrial, Goods: true},
		{Every: 1},
	} {
		made := bytesOf(p)
		for size := range made {
			b := pack.Of(made[:size])
			if got := plan.Get(b); got != (api.Plan{}) || b.Fault() != api.ErrShort {
				t.Errorf("Get of %x = %v, %d", made[:size], got, b.Fault())
			}
		}
	}
}

// P9.1: each of a plan's numbers by another one: no plan is told, whatever the others are; a number that a byte, or fewer bits, would wrap to a right one isn't right.
func TestGetOthers(t *testing.T) {
	ordinary := numbers(api.Plan{Price: 999, Unit: api.Months, Every: 3, Trial: 14, Goods: true, Last: true})
	most := []int64{api.MaxPrice, int64(api.Years), api.MaxEvery, api.MaxTrial, 1, 1}
	least := []int64{0, 0, 1, 0, 0, 0}
	for at := range ordinary {
		for _, n := range []int64{
			math.MinInt64, -1 << 32, -256, -2, -1, least[at] - 1, least[at], least[at] + 1, most[at], most[at] + 1,
			256, 257, 258, 1 << 16, 1<<16 + 1, 1 << 32, 1<<32 + 1, 1<<32 + 3, math.MaxInt64,
		} {
			l := slices.Clone(ordinary)
			l[at] = n
			b := pack.New().Put(l...)
			got := plan.Get(b)
			if n >= least[at] && n <= most[at] {
				if !slices.Equal(numbers(got), l) || b.End() != api.OK {
					t.Errorf("Get of %v = %v, %d", l, got, b.End())
				}
			} else if got != (api.Plan{}) || b.Fault() != api.ErrArg {
				t.Errorf("Get of %v = %v, %d", l, got, b.Fault())
			}
		}
	}
}

// P9.1: a number that Put makes otherwise is one at every place.
func TestGetForm(t *testing.T) {
	l := numbers(api.Plan{Price: 999, Unit: api.Months, Every: 3, Trial: 14, Goods: true, Last: true})
	for at := range l {
		for _, wrong := range [][]byte{{128}, {255}, {64 + 2, 0}, bytes.Repeat([]byte{127}, 11)} {
			var p []byte
			for i, n := range l {
				if i == at {
					p = append(p, wrong...)
				} else {
					p = append(p, number(n)...)
				}
			}
			b := pack.Of(p)
			if got := plan.Get(b); got != (api.Plan{}) || b.Fault() != api.ErrForm {
				t.Errorf("Get of %x = %v, %d", p, got, b.Fault())
			}
		}
	}
}

// P9.1: of a box that has a fault no plan is told, and the fault stays.
func TestGetBehindFault(t *testing.T) {
	b := pack.Of(append(number(9), bytesOf(api.Plan{Price: 1, Every: 1})...))
	b.Get(10, 10)
	if got := plan.Get(b); got != (api.Plan{}) || b.Fault() != api.ErrArg {
		t.Errorf("%v, %d", got, b.Fault())
	}
	b = pack.New()
	plan.Get(b)
	plan.Put(b, api.Plan{Price: 1, Every: 1})
	if got := plan.Get(b); got != (api.Plan{}) || b.Fault() != api.ErrShort {
		t.Errorf("%v, %d", got, b.Fault())
	}
}

// P9.1: of any bytes either a plan that is Right, and that Put makes of just these, or a fault and no plan.
func TestGetAny(t *testing.T) {
	r := rand.New(rand.NewSource(9))
	told := 0
	for range 200000 {
		p := make([]byte, r.Intn(12))
		for i := range p {
			p[i] = byte(2 * r.Intn(4))
			if r.Intn(8) == 0 {
				p[i] = byte(r.Intn(140))
			}
		}
		b := pack.Of(p)
		got := plan.Get(b)
		if b.Fault() != api.OK {
			if got != (api.Plan{}) {
				t.Errorf("Get of %x = %v, %d", p, got, b.Fault())
			}
			continue
		}
		told++
		if made := bytesOf(got); plan.Right(got) != api.OK || !bytes.Equal(made, p[:len(p)-b.Left()]) {
			t.Errorf("Get of %x = %v, that is %x", p, got, made)
		}
	}
	if told < 1000 {
		t.Errorf("%d plans", told)
	}
}

// P9.1, P1: of a nil box Put and Get end.
func TestNilBox(t *testing.T) {
	plan.Put(nil, api.Plan{Every: 1})
	plan.Get(nil)
}

// numbered is a plan that can be told from the others.
func numbered(n int) api.Plan {
	return api.Plan{Price: int64(100 + n), Unit: byte(n % 4), Every: n + 1, Trial: 2 * n, Goods: n%2 == 0, Last: n%3 == 0}
}

// listOf is so many plans.
func listOf(n int) plan.List {
	l := plan.List{}
	for i := range n {
		l = append(l, numbered(i))
	}
	return l
}

// P9.2: Add, up to MaxPlans and beyond, and Get of each.
func TestAdd(t *testing.T) {
	for _, l := range []plan.List{nil, {}} {
		for i := range api.MaxPlans {
			m, n, e := l.Add(numbered(i))
			if n != i || e != api.OK || !slices.Equal(m, listOf(i+1)) || len(l) != i {
				t.Fatalf("Add %d = %v, %d, %d", i, m, n, e)
			}
			l = m
		}
		for range 2 {
			if m, n, e := l.Add(numbered(8)); len(m) != 0 || n != 0 || e != api.ErrFull {
				t.Errorf("Add to 8 = %v, %d, %d", m, n, e)
			}
		}
		for i := range api.MaxPlans {
			if p, e := l.Get(i); p != numbered(i) || e != api.OK {
				t.Errorf("Get(%d) = %v, %d", i, p, e)
			}
		}
	}
}

// P9.2: of lists of more than MaxPlans, too, Add is ErrFull, and Get tells each.
func TestMoreThanMaxPlans(t *testing.T) {
	l := listOf(api.MaxPlans + 2)
	if m, n, e := l.Add(numbered(0)); len(m) != 0 || n != 0 || e != api.ErrFull {
		t.Errorf("Add = %v, %d, %d", m, n, e)
	}
	if p, e := l.Get(api.MaxPlans + 1); p != numbered(api.MaxPlans+1) || e != api.OK {
		t.Errorf("Get = %v, %d", p, e)
	}
}

// P9.2: Add has Right's errors, ahead of ErrFull, and nothing stands beside them.
func TestAddErrors(t *testing.T) {
	for _, size := range []int{0, 1, api.MaxPlans - 1, api.MaxPlans, api.MaxPlans + 1} {
		for _, p := range []api.Plan{
			{}, {Unit: 4, Every: 1}, {Every: api.MaxEvery + 1}, {Every: 1, Trial: -1}, {Every: 1, Price: -1}, {Every: 1, Price: api.MaxPrice + 1}, {Price: -1},
		} {
			l := listOf(size)
			if m, n, e := l.Add(p); len(m) != 0 || n != 0 || e != right(p) {
				t.Errorf("Add(%v) to %d = %v, %d, %d", p, size, m, n, e)
			}
			if !slices.Equal(l, listOf(size)) {
				t.Errorf("Add(%v) to %d has left %v", p, size, l)
			}
		}
	}
}

// P9.2: what is added stands nowhere in l, nor in what else was made of it: not in the room behind it, either.
func TestAddLeavesList(t *testing.T) {
	for size := range api.MaxPlans {
		whole := listOf(api.MaxPlans)
		l := whole[:size]
		m, _, _ := l.Add(numbered(20))
		n, _, _ := l.Add(numbered(21))
		if !slices.Equal(whole, listOf(api.MaxPlans)) {
			t.Fatalf("Add to %d of 8 has left %v", size, whole)
		}
		if len(l) != size || m[size] != numbered(20) || n[size] != numbered(21) {
			t.Errorf("Add to %d: %v, %v", size, m, n)
		}
		if size > 0 {
			m[0] = numbered(22)
			if l[0] != numbered(0) || n[0] != numbered(0) {
				t.Errorf("Add to %d shares its plans", size)
			}
		}
		// A list that was answered may be appended to.
		a, b := append(n, numbered(23)), append(l[:size:size], numbered(24))
		if n[size] != numbered(21) || a[size+1] != numbered(23) || b[size] != numbered(24) {
			t.Errorf("append to %d: %v, %v", size, a, b)
		}
	}
}

// P9.2: two lists that are made of one that was made by Add don't share their last plan.
func TestAddTwice(t *testing.T) {
	var l plan.List
	for i := range api.MaxPlans - 1 {
		l, _, _ = l.Add(numbered(i))
		m, _, _ := l.Add(numbered(30))
		n, _, _ := l.Add(numbered(31))
		if m[i+1] != numbered(30) || n[i+1] != numbered(31) || !slices.Equal(l, listOf(i+1)) {
			t.Errorf("%v, %v, %v", l, m, n)
		}
	}
}

// P9.2: Get of numbers that no plan has.
func TestGetNone(t *testing.T) {
	for size := range api.MaxPlans + 1 {
		// Behind the list there is more, that isn't its.
		l := listOf(api.MaxPlans + 3)[:size]
		for _, n := range []int{math.MinInt, -1, size, size + 1, api.MaxPlans, api.MaxPlans + 1, 1 << 32, math.MaxInt} {
			if n >= 0 && n < size {
				continue
			}
			if p, e := l.Get(n); p != (api.Plan{}) || e != api.ErrNone {
				t.Errorf("Get(%d) of %d = %v, %d", n, size, p, e)
			}
		}
	}
	if p, e := plan.List(nil).Get(0); p != (api.Plan{}) || e != api.ErrNone {
		t.Errorf("Get(0) of nil = %v, %d", p, e)
	}
}

// P9.2: Change, of ordinary prices.
func TestChange(t *testing.T) {
	for _, c := range []struct {
		from, to   int64
		left, days int
		back, due  int64
	}{
		{300, 900, 10, 30, 100, 300}, {1000, 500, 10, 31, 322, 161}, {900, 300, 10, 30, 300, 100},
		{300, 900, 0, 30, 0, 0}, {300, 900, 30, 30, 300, 900}, {300, 900, 29, 30, 290, 870}, {1, 2, 29, 30, 0, 1},
		{0, 900, 1, 2, 0, 450}, {300, 0, 1, 2, 150, 0}, {7, 9, 0, 1, 0, 0}, {7, 9, 1, 1, 7, 9},
		{api.MaxPrice, api.MaxPrice, 364, 365, 1070800065, 1070800065},
		// A price is an amount here: what no plan's may be can be parted all the same.
		{api.MaxMoney, api.MaxPrice + 1, 1, 1, api.MaxMoney, api.MaxPrice + 1},
	} {
		// All but their prices is nothing to it.
		from, to := api.Plan{Price: c.from, Unit: 9, Every: -1}, api.Plan{Price: c.to, Unit: api.Months, Every: 1, Trial: 5, Goods: true, Last: true}
		if back, due, e := plan.Change(from, to, c.left, c.days); back != c.back || due != c.due || e != api.OK {
			t.Errorf("Change(%d, %d, %d, %d) = %d, %d, %d", c.from, c.to, c.left, c.days, back, due, e)
		}
	}
}

// part is a part of an amount, by numbers of any length, or its error.
func part(amount int64, left, days int) (int64, api.Errno) {
	switch {
	case amount < 0, amount > api.MaxMoney:
		return 0, api.ErrMoney
	case days < 1, left < 0, left > days:
		return 0, api.ErrArg
	}
	n := new(big.Int).Mul(big.NewInt(amount), big.NewInt(int64(left)))
	return n.Quo(n, big.NewInt(int64(days))).Int64(), api.OK
}

// P9.2: Change at all edges: the error of the one's part, else of the other one's, and 0, 0 beside it.
func TestChangeEdges(t *testing.T) {
	amounts := []int64{math.MinInt64, -1, 0, 1, 999, api.MaxPrice, api.MaxPrice + 1, api.MaxMoney, api.MaxMoney + 1, math.MaxInt64}
	days := []int{math.MinInt, -1, 0, 1, 2, 3, 30, 31, 365, 365243, 1<<32 + 1, math.MaxInt - 1, math.MaxInt}
	for _, from := range amounts {
		for _, to := range amounts {
			for _, left := range days {
				for _, all := range days {
					checkChange(t, from, to, left, all)
				}
			}
		}
	}
}

func checkChange(t *testing.T, from, to int64, left, days int) {
	t.Helper()
	back, want := part(from, left, days)
	due, e := part(to, left, days)
	if want == api.OK {
		want = e
	}
	if want != api.OK {
		back, due = 0, 0
	}
	a, b, e := plan.Change(api.Plan{Price: from}, api.Plan{Price: to}, left, days)
	if a != back || b != due || e != want {
		t.Errorf("Change(%d, %d, %d, %d) = %d, %d, %d; asked for is %d, %d, %d", from, to, left, days, a, b, e, back, due, want)
	}
}

// P2: the same arguments have the same answers, whatever was asked between.
func TestAnswersDependOnArguments(t *testing.T) {
	p := numbered(2)
	made := bytesOf(p)
	l, _, _ := listOf(2).Add(p)
	plan.Right(api.Plan{})
	plan.Get(pack.Of([]byte{255}))
	plan.Change(api.Plan{Price: -1}, p, 9, 0)
	plan.List(nil).Add(numbered(9))
	if again := bytesOf(p); plan.Right(p) != api.OK || !bytes.Equal(again, made) || plan.Get(pack.Of(made)) != p {
		t.Errorf("%x, then %x", made, again)
	}
	if m, n, e := listOf(2).Add(p); !slices.Equal(m, l) || n != 2 || e != api.OK {
		t.Errorf("%v, then %v, %d, %d", l, m, n, e)
	}
	if a, b, e := plan.Change(api.Plan{Price: 300}, api.Plan{Price: 900}, 10, 30); a != 100 || b != 300 || e != api.OK {
		t.Error(a, b, e)
	}
}
