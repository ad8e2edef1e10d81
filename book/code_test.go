package book_test

import (
	"bytes"
	"math"
	"math/rand"
	"runtime"
	"slices"
	"testing"

	"paybook/api"
	"paybook/book"
	"paybook/pack"
	"paybook/plan"
)

// box is the bytes of some numbers.
func box(l ...int64) []byte {
	return pack.New().Put(l...).Done()
}

// nothings are the numbers of so many subscriptions that aren't there.
func nothings(n int) []int64 {
	return make([]int64, n)
}

// flag is a truth as a number.
func flag(on bool) int64 {
	if on {
		return 1
	}
	return 0
}

// numbers are all of a book, in order.
func numbers(b book.Book) []int64 {
	l := []int64{int64(b.Today), int64(len(b.Plans))}
	for _, p := range b.Plans {
		l = append(l, p.Price, int64(p.Unit), int64(p.Every), int64(p.Trial), flag(p.Goods), flag(p.Last))
	}
	for _, a := range b.Subs {
		l = append(l, int64(a.State))
		if a.State == api.Nothing {
			continue
		}
		l = append(l, int64(a.Plan), int64(a.Anchor), int64(a.Index), int64(a.Count), a.Credit, flag(a.Skip))
		l = append(l, int64(a.Past.Done), int64(a.Past.Unpaid), int64(a.Past.Refunded), int64(a.Past.Skipped), a.Past.Paid, int64(len(a.Open)))
		for _, c := range a.Open {
			l = append(l, int64(c.No), int64(c.Due), int64(c.Phase), c.Amount, c.Used, int64(c.Try), int64(c.Next), flag(c.Goods))
		}
	}
	return l
}

// checkBack: of what Encode makes of a book Decode makes that book.
func checkBack(t *testing.T, b book.Book) {
	t.Helper()
	p := b.Encode()
	if want := box(numbers(b)...); !bytes.Equal(p, want) {
		t.Fatalf("Encode of %+v = %x; asked for is %x", b, p, want)
	}
	if c, e := book.Decode(p); e != api.OK || !same(c, b) {
		t.Fatalf("Decode of Encode of %+v = %+v, %d", b, c, e)
	}
}

// checkForm: Decode answers ErrForm, and no book.
func checkForm(t *testing.T, p []byte) {
	t.Helper()
	if b, e := book.Decode(p); e != api.ErrForm || !same(b, book.Book{}) {
		t.Errorf("Decode(%x) = %v, %d; asked for is ErrForm", p, numbers(b), e)
	}
}

// P14.2: Encode, told by hand.
func TestEncodeByHand(t *testing.T) {
	if p := book.New(0).Encode(); !bytes.Equal(p, make([]byte, 34)) {
		t.Errorf("%x", p)
	}
	if p, want := book.New(100).Encode(), append([]byte{0x48, 0x03, 0}, make([]byte, 32)...); !bytes.Equal(p, want) {
		t.Errorf("%x; asked for is %x", p, want)
	}
	b := stepped(t, book.New(5), define(api.Plan{Price: 7, Unit: api.Weeks, Every: 2, Trial: 0, Goods: true}), open(1, 0))
	want := []byte{
		10, 2, // the day, a plan
		14, 2, 4, 0, 2, 0, // it
		0,                                      // no subscription 0
		2, 0, 10, 2, 2, 0, 0, 0, 0, 0, 0, 0, 2, // one that is Active, of plan 0, from day 5 on; a cycle, that is open
		0, 10, 2, 14, 0, 2, 0, 2, // it: Charging
	}
	if p := b.Encode(); !bytes.Equal(p, append(want, make([]byte, 30)...)) {
		t.Errorf("%x", p)
	}
	checkBack(t, b)
}

// whole is a book that has something else in each field.
func whole() book.Book {
	b := book.Book{Today: 200, Plans: plan.List{
		{Price: 999, Unit: api.Months, Every: 3, Trial: 14, Goods: true},
		{Price: 700, Unit: api.Weeks, Every: 1, Last: true},
	}}
	b.Subs[2] = api.Account{
		State: api.Paused, Plan: 1, Anchor: 130, Index: 9, Count: 10, Credit: -35, Skip: true,
		Open: []api.Cycle{
			{No: 4, Due: 158, Phase: api.Waiting, Amount: 600, Used: 101, Try: 3, Next: 207, Goods: true},
			{No: 7, Due: 179, Phase: api.Refunding, Amount: 701, Used: -1, Try: 2},
		},
		Past: api.Sum{Done: 1, Unpaid: 2, Refunded: 0, Skipped: 5, Paid: 1234},
	}
	b.Subs[31] = api.Account{
		State: api.Ended, Anchor: 195, Index: 7, Count: 8, Credit: 4321,
		Open: []api.Cycle{{No: 6, Due: 199, Phase: api.Charging, Amount: 650, Used: 50, Try: 4}},
		Past: api.Sum{Done: 2, Unpaid: 3, Refunded: 1, Skipped: 1, Paid: 555},
	}
	return b
}

// P14.2: each thing stands at its place, whatever it is; of what isn't there nothing but that is told.
func TestEncodeAll(t *testing.T) {
	checkBack(t, whole())
	checkBack(t, book.Book{})
	b := whole()
	b.Subs[7] = api.Account{Plan: 1, Anchor: 5, Index: 1, Count: 1, Credit: 9, Skip: true, Open: []api.Cycle{{Phase: api.Charging}}, Past: api.Sum{Paid: 3}}
	if p := b.Encode(); !bytes.Equal(p, whole().Encode()) {
		t.Errorf("%x", p)
	}
	for _, b := range wild() {
		if p, want := b.Encode(), box(numbers(b)...); !bytes.Equal(p, want) {
			t.Errorf("Encode of %+v = %x; asked for is %x", b, p, want)
		}
	}
}

// P14.2: what ends too early is none, and what has something behind it.
func TestDecodeShortAndLong(t *testing.T) {
	checkForm(t, nil)
	checkForm(t, []byte{})
	for _, b := range []book.Book{book.New(100), whole(), subscribed(t)} {
		p := b.Encode()
		for size := range p {
			checkForm(t, p[:size])
		}
		for _, behind := range [][]byte{{0}, {1}, {2}, {64}, {255}, {0, 0}, p} {
			checkForm(t, append(slices.Clone(p), behind...))
		}
	}
}

// A span is what a number may be while all others stay.
type span struct{ least, most int64 }

// only is a span of one number.
func only(n int64) span { return span{n, n} }

// spans are those of the numbers of whole().
func spans() []span {
	flags, anyDay := span{0, 1}, span{0, api.MaxDay}
	plan := []span{{0, api.MaxPrice}, {0, 3}, {1, api.MaxEvery}, {0, api.MaxTrial}, flags, flags}
	cycle := func(least, most int64) []span {
		return []span{{least, most}, anyDay, {1, 6}, {0, api.MaxMoney}, {-api.MaxMoney, api.MaxMoney}, {0, 100}, {0, api.MaxDay + 7}, flags}
	}
	account := func(past ...int64) []span {
		l := []span{{1, 3}, {0, 1}, anyDay, {0, api.MaxDay + 1}, only(past[0]), {math.MinInt64, math.MaxInt64}, flags}
		for _, n := range past[1:5] {
			l = append(l, only(n))
		}
		return append(l, span{0, math.MaxInt64}, only(past[5]))
	}
	return slices.Concat([]span{anyDay, only(2)}, plan, plan, []span{only(0), only(0)},
		account(10, 1, 2, 0, 5, 2), cycle(0, 6), cycle(5, 9), slices.Repeat([]span{only(0)}, 28), account(8, 2, 3, 1, 1, 1), cycle(0, 7))
}

// P14.2: each number by another one: beyond what it may be there is no book, also where fewer bits would wrap it to one that may be.
func TestDecodeOtherNumbers(t *testing.T) {
	l, s := numbers(whole()), spans()
	if len(l) != len(s) {
		t.Fatalf("%d numbers, %d spans", len(l), len(s))
	}
	for at, n := range l {
		others := []int64{
			math.MinInt64, -1 << 50, -1 << 32, -256, -1, 0, 1, 2, 3, 4, 5, 6, 7, 8, 9, 10, 11, 64, 100, 101, 255, 256, 257, 258, 1000, 1001,
			1 << 16, 1<<16 + 1, 1 << 30, 1<<30 + 1, 1 << 32, 1<<32 + 1, n + 1<<8, n + 1<<16, n + 1<<32, 1 << 50, 1<<50 + 1, math.MaxInt64,
			s[at].least - 1, s[at].least, s[at].least + 1, s[at].most - 1, s[at].most, s[at].most + 1,
		}
		for _, other := range others {
			x := slices.Clone(l)
			x[at] = other
			p := box(x...)
			if other < s[at].least || other > s[at].most {
				checkForm(t, p)
				continue
			}
			if b, e := book.Decode(p); e != api.OK || !slices.Equal(numbers(b), x) {
				t.Errorf("number %d is %d: %+v, %d", at, other, b, e)
			}
		}
	}
}

// P14.2: of a subscription that isn't there nothing stands, and of one of a plan that isn't there no book does.
func TestDecodeStates(t *testing.T) {
	account := []int64{0, 5, 0, 0, 0, 0, 0, 0, 0, 0, 0, 0}
	for state := int64(-1); state < 300; state++ {
		l := slices.Concat([]int64{5, 1, 7, 0, 1, 0, 0, 0}, []int64{state}, account, nothings(31))
		if state >= 1 && state <= 3 {
			if b, e := book.Decode(box(l...)); e != api.OK || !slices.Equal(numbers(b), l) {
				t.Errorf("state %d: %+v, %d", state, b, e)
			}
		} else {
			checkForm(t, box(l...))
		}
		if state != 0 {
			checkForm(t, box(slices.Concat([]int64{5, 0}, []int64{state}, account, nothings(31))...))
		}
	}
	checkForm(t, box(slices.Concat([]int64{5, -1}, nothings(32))...))
	for plans := range int64(12) {
		l := []int64{5, plans}
		for range plans {
			l = append(l, 7, 0, 1, 0, 0, 0)
		}
		p := box(append(l, nothings(32)...)...)
		if b, e := book.Decode(p); plans <= 8 && (e != api.OK || len(b.Plans) != int(plans) || !bytes.Equal(b.Encode(), p)) {
			t.Errorf("%d plans: %+v, %d", plans, b, e)
		}
		if plans > 8 {
			checkForm(t, p)
		}
	}
}

// P14.2: a plan that isn't right is in no book.
func TestDecodePlans(t *testing.T) {
	for _, p := range []api.Plan{{}, {Unit: 4, Every: 1}, {Every: api.MaxEvery + 1}, {Every: 1, Trial: -1}, {Every: 1, Price: -1}, {Every: 1, Price: api.MaxPrice + 1}} {
		for n := range api.MaxPlans {
			b := book.New(5)
			for i := range api.MaxPlans {
				b.Plans = append(b.Plans, daily(int64(i)))
			}
			b.Plans[n] = p
			checkForm(t, b.Encode())
		}
	}
}

// P14.2: cycles together are Count, and open ones rise, below it.
func TestDecodeCounts(t *testing.T) {
	check := func(ok bool, count int, past api.Sum, nos ...int) {
		t.Helper()
		b := book.New(5)
		b.Plans = plan.List{daily(1)}
		b.Subs[9] = api.Account{State: api.Active, Count: count, Past: past}
		for _, no := range nos {
			b.Subs[9].Open = append(b.Subs[9].Open, api.Cycle{No: no, Phase: api.Charging, Amount: 1, Try: 1})
		}
		if ok {
			checkBack(t, b)
		} else {
			checkForm(t, b.Encode())
		}
	}
	for n := range 9 {
		check(n == 4, n, api.Sum{Done: 1, Unpaid: 1, Refunded: 1, Skipped: 1})
		check(n == 6, n, api.Sum{Done: 1, Skipped: 2}, 0, 3, 4)
		check(n == 4, 4, api.Sum{Done: n})
		check(n == 3, 4, api.Sum{Done: 1, Unpaid: n})
		check(n == 2, 4, api.Sum{Unpaid: 2, Refunded: n})
		check(n == 1, 4, api.Sum{Refunded: 3, Skipped: n})
		check(n == 0, 2, api.Sum{Skipped: n}, 0, 1)
	}
	check(true, 3, api.Sum{}, 0, 1, 2)
	check(true, 4, api.Sum{Done: 1}, 1, 2, 3)
	check(false, 3, api.Sum{}, 1, 2, 3)
	check(false, 3, api.Sum{}, 0, 2, 1)
	check(false, 3, api.Sum{}, 0, 0, 1)
	check(false, 3, api.Sum{Done: 1}, 2, 2)
	check(false, 3, api.Sum{Done: 1}, -1, 2)
	check(false, 1, api.Sum{Done: 2, Unpaid: -1})
	check(false, 0, api.Sum{Done: 1}, []int{}...)
	check(false, -1, api.Sum{Done: -1})
	check(false, 1, api.Sum{Done: 2, Skipped: -2}, 0)
	check(false, api.MaxDay+2, api.Sum{Done: api.MaxDay + 2})
	check(true, api.MaxDay+1, api.Sum{Done: api.MaxDay + 1})
	check(true, api.MaxDay+1, api.Sum{Done: api.MaxDay}, api.MaxDay)
	check(false, math.MaxInt, api.Sum{Done: math.MaxInt})
	// What is below 0 isn't made good by what is too much.
	check(false, 1, api.Sum{Done: -1, Unpaid: 2})
	check(false, 1, api.Sum{Unpaid: -1, Refunded: 2})
	check(false, 1, api.Sum{Refunded: -1, Skipped: 2})
	check(false, 1, api.Sum{Done: 1, Skipped: -1}, 0)
	for at := range 4 {
		past := []int64{1, 1, 1, 1}
		past[at]++
		for _, open := range []int64{-1, 0, 1} {
			l := slices.Concat([]int64{5, 1, 7, 0, 1, 0, 0, 0}, []int64{1, 0, 5, 0, 4, 0, 0}, past, []int64{0, open}, nothings(31))
			checkForm(t, box(l...))
		}
	}
}

// P1, P14.2: of more cycles than are there nothing is made: not even room for them.
func TestDecodeManyCycles(t *testing.T) {
	var ahead, behind runtime.MemStats
	runtime.ReadMemStats(&ahead)
	l := numbers(stepped(t, book.New(5), define(daily(1))))
	l = append(l[:len(l)-1], 1, 0, 5, 0, api.MaxDay+1, 0, 0, 0, 0, 0, 0, 0, api.MaxDay+1)
	checkForm(t, box(l...))
	checkForm(t, box(append(l, 0, 5, 1, 1, 0, 1, 0, 0)...))
	checkForm(t, box(append(l, slices.Repeat([]int64{0, 5, 1, 1, 0, 1, 0, 0}, 1000)...)...))
	if runtime.ReadMemStats(&behind); behind.TotalAlloc-ahead.TotalAlloc > 1<<24 {
		t.Errorf("%d bytes", behind.TotalAlloc-ahead.TotalAlloc)
	}
}

// P14.2: numbers, and flags, that no box makes so are in no book, at any place.
func TestDecodeForm(t *testing.T) {
	l := numbers(whole())
	for at, n := range l {
		marked := box(n)
		marked[len(marked)-1] += 64
		for _, wrong := range [][]byte{{128}, {255}, bytes.Repeat([]byte{127}, 11), append(marked, 0)} {
			checkForm(t, slices.Concat(box(l[:at]...), wrong, box(l[at+1:]...)))
		}
	}
}

// P14.2: one byte, or some, otherwise: either there is no book, or Encode makes just these bytes of it, and all calls end.
func TestDecodeAny(t *testing.T) {
	r := rand.New(rand.NewSource(14))
	p := stepped(t, subscribed(t), open(0, 1), pass(7), hear(charge(5, 0, 1, api.Soft)), of(api.Pause, 3), change(31, 2)).Encode()
	told := 0
	check := func(x []byte) {
		b, e := book.Decode(x)
		if e != api.OK {
			checkForm(t, x)
			return
		}
		told++
		if !bytes.Equal(b.Encode(), x) {
			t.Errorf("Decode(%x) = %+v, that is %x", x, b, b.Encode())
		}
		b.Asks()
		b.Step(pass(1))
	}
	for at := range p {
		for other := range 256 {
			x := slices.Clone(p)
			x[at] = byte(other)
			check(x)
		}
	}
	for range 20000 {
		x := slices.Clone(p)
		for range 1 + r.Intn(4) {
			x[r.Intn(len(x))] = byte(2 * r.Intn(8))
		}
		check(x)
		check(x[:r.Intn(len(x))])
	}
	if told < 1000 {
		t.Errorf("%d books", told)
	}
}

// Rule of memory: what was decoded has none of its bytes; they stay, and nothing is shared.
func TestDecodeOwnLists(t *testing.T) {
	p := whole().Encode()
	ahead := slices.Clone(p)
	b, _ := book.Decode(p)
	c, _ := book.Decode(p)
	if !bytes.Equal(p, ahead) {
		t.Errorf("%x", p)
	}
	scribble(&b)
	clear(p)
	if !same(c, whole()) {
		t.Errorf("%+v", c)
	}
	b = whole()
	q := b.Encode()
	clear(q)
	if !same(b, whole()) || !bytes.Equal(b.Encode(), ahead) {
		t.Errorf("%+v", b)
	}
}
