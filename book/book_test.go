package book_test

import (
	"math"
	"slices"
	"testing"

	"paybook/account"
	"paybook/api"
	"paybook/book"
	"paybook/order"
	"paybook/plan"
)

// sameAccount: are two subscriptions the same? (A nil list and an empty one are.)
func sameAccount(a, b api.Account) bool {
	return a.State == b.State && a.Plan == b.Plan && a.Anchor == b.Anchor && a.Index == b.Index && a.Count == b.Count &&
		a.Credit == b.Credit && a.Skip == b.Skip && slices.Equal(a.Open, b.Open) && a.Past == b.Past
}

// same: are two books the same?
func same(a, b book.Book) bool {
	return a.Today == b.Today && slices.Equal(a.Plans, b.Plans) && slices.EqualFunc(a.Subs[:], b.Subs[:], sameAccount)
}

// copyOf is a book that shares nothing with another one.
func copyOf(b book.Book) book.Book {
	b.Plans = slices.Clone(b.Plans)
	for i := range b.Subs {
		b.Subs[i].Open = slices.Clone(b.Subs[i].Open)
	}
	return b
}

// check: a Step leads to a book, or has an error and leads to none; the book ahead of it stays.
func check(t *testing.T, b book.Book, o api.Order, want book.Book, wantErr api.Errno) {
	t.Helper()
	ahead := copyOf(b)
	got, e := b.Step(o)
	if wantErr != api.OK {
		want = book.Book{}
	}
	if !same(got, want) || e != wantErr {
		t.Errorf("Step(%v) = %+v, %d; asked for is %+v, %d", o, got, e, want, wantErr)
	}
	if !same(b, ahead) {
		t.Errorf("Step(%v) has made %+v of %+v", o, b, ahead)
	}
}

// fails: a Step has an error and leads to none.
func fails(t *testing.T, b book.Book, o api.Order, want api.Errno) {
	t.Helper()
	check(t, b, o, book.Book{}, want)
}

// stepped is a book behind orders that are all OK.
func stepped(t *testing.T, b book.Book, orders ...api.Order) book.Book {
	t.Helper()
	for _, o := range orders {
		ahead := copyOf(b)
		c, e := b.Step(o)
		if e != api.OK {
			t.Fatalf("Step(%v) = %d", o, e)
		}
		if !same(b, ahead) {
			t.Fatalf("Step(%v) has made %+v of %+v", o, b, ahead)
		}
		b = c
	}
	return b
}

func define(p api.Plan) api.Order   { return api.Order{Kind: api.Define, P: p} }
func open(sub, n int) api.Order     { return api.Order{Kind: api.Open, Sub: sub, Plan: n} }
func change(sub, n int) api.Order   { return api.Order{Kind: api.Change, Sub: sub, Plan: n} }
func of(kind byte, s int) api.Order { return api.Order{Kind: kind, Sub: s} }
func pass(n int) api.Order          { return api.Order{Kind: api.Pass, N: n} }
func hear(n api.Notice) api.Order   { return api.Order{Kind: api.Hear, A: n} }
func daily(price int64) api.Plan    { return api.Plan{Price: price, Unit: api.Days, Every: 10} }
func weekly(price int64) api.Plan   { return api.Plan{Price: price, Unit: api.Weeks, Every: 1} }
func charging(no, due int) api.Cycle {
	return api.Cycle{No: no, Due: due, Phase: api.Charging, Amount: 700, Try: 1}
}

// charge is a verdict to a charge of 7.00.
func charge(sub, no, try int, verdict byte) api.Notice {
	return api.Notice{Kind: api.Charge, Sub: sub, Cycle: no, Try: try, Amount: 700, Verdict: verdict}
}

// subscribed is a book of day 1000 with three plans, and of the first one, of 7.00 a week, the subscriptions 3, 5 and 31.
func subscribed(t *testing.T) book.Book {
	t.Helper()
	goods := api.Plan{Price: 1400, Unit: api.Months, Every: 1, Trial: 3, Goods: true}
	return stepped(t, book.New(1000), define(weekly(700)), define(goods), define(daily(500)), open(3, 0), open(5, 0), open(31, 0))
}

// The example of the chapter.
func TestExample(t *testing.T) {
	b := stepped(t, book.New(0), define(daily(100)), open(0, 0))
	want := api.Cycle{Phase: api.Charging, Amount: 100, Try: 1}
	if l := b.Subs[0].Open; len(l) != 1 || l[0] != want {
		t.Errorf("%+v", b.Subs[0])
	}
	if l := b.Asks(); len(l) != 1 || l[0] != (api.Notice{Kind: api.Charge, Try: 1, Amount: 100}) {
		t.Errorf("%v", l)
	}
}

// P14.1: New: a day; no plans, no subscriptions.
func TestNew(t *testing.T) {
	for _, today := range []int{0, 1, 738915, api.MaxDay, -1, math.MinInt, math.MaxInt} {
		b := book.New(today)
		if !same(b, book.Book{Today: today}) || len(b.Asks()) != 0 {
			t.Errorf("New(%d) = %+v", today, b)
		}
	}
}

// P14.1: order.Right's errors hold ahead of all others, whatever the book has.
func TestStepWrongOrders(t *testing.T) {
	full := subscribed(t)
	for range api.MaxPlans - 3 {
		full = stepped(t, full, define(daily(1)))
	}
	full.Today = api.MaxDay
	for _, c := range []struct {
		o    api.Order
		want api.Errno
	}{
		{api.Order{}, api.ErrArg},
		{api.Order{Kind: api.Hear + 1}, api.ErrArg},
		{api.Order{Kind: 255, Sub: 3}, api.ErrArg},
		{define(api.Plan{}), api.ErrArg},
		{define(api.Plan{Every: 1, Price: -1}), api.ErrMoney},
		{define(api.Plan{Every: 1, Price: api.MaxPrice + 1}), api.ErrMoney},
		{define(api.Plan{Every: 1, Trial: api.MaxTrial + 1, Price: -1}), api.ErrArg},
		{api.Order{Kind: api.Define, Plan: 1, P: daily(1)}, api.ErrArg},
		{open(-1, 0), api.ErrArg}, {open(api.MaxSubs, 0), api.ErrArg}, {open(3, -1), api.ErrArg}, {open(3, api.MaxPlans), api.ErrArg},
		{open(math.MinInt, 0), api.ErrArg}, {open(math.MaxInt, 0), api.ErrArg},
		{change(-1, 0), api.ErrArg}, {change(api.MaxSubs, 0), api.ErrArg}, {change(3, -1), api.ErrArg}, {change(3, api.MaxPlans), api.ErrArg},
		{of(api.Pause, -1), api.ErrArg}, {of(api.Resume, api.MaxSubs), api.ErrArg}, {of(api.Skip, -1), api.ErrArg},
		{of(api.Cancel, api.MaxSubs), api.ErrArg}, {of(api.Card, math.MaxInt), api.ErrArg},
		{pass(0), api.ErrArg}, {pass(-1), api.ErrArg}, {pass(api.MaxPass + 1), api.ErrArg}, {pass(math.MaxInt), api.ErrArg},
		{api.Order{Kind: api.Pass, N: 1, Sub: 3}, api.ErrArg},
		{hear(api.Notice{}), api.ErrArg},
		{hear(charge(3, 0, 1, api.Ask)), api.ErrArg},
		{hear(charge(3, 0, 1, api.No+1)), api.ErrArg},
		{hear(charge(-1, 0, 1, api.Yes)), api.ErrArg}, {hear(charge(api.MaxSubs, 0, 1, api.Yes)), api.ErrArg},
		{hear(charge(3, -1, 1, api.Yes)), api.ErrArg}, {hear(charge(3, 0, 101, api.Yes)), api.ErrArg},
		{hear(api.Notice{Kind: api.Ship + 1, Sub: 3, Verdict: api.Yes}), api.ErrArg},
	} {
		if e := order.Right(c.o); e != c.want {
			t.Errorf("order.Right(%v) = %d", c.o, e)
		}
		fails(t, book.New(5), c.o, c.want)
		fails(t, full, c.o, c.want)
	}
}

// P14.1: Define: one more plan, the last one, up to MaxPlans; ErrFull.
func TestDefine(t *testing.T) {
	b := stepped(t, book.New(5), define(daily(100)), open(2, 0))
	for n := 1; n < api.MaxPlans; n++ {
		p := api.Plan{Price: int64(n), Unit: byte(n % 4), Every: n, Trial: n, Goods: n%2 == 0, Last: n%3 == 0}
		want := copyOf(b)
		want.Plans = append(want.Plans, p)
		check(t, b, define(p), want, api.OK)
		b = stepped(t, b, define(p))
	}
	fails(t, b, define(daily(1)), api.ErrFull)
	// Of a plan that isn't right nothing is told but that.
	fails(t, b, define(api.Plan{}), api.ErrArg)
	fails(t, b, define(daily(-1)), api.ErrMoney)
}

// P14.1: Open: the subscription of a plan, and its day, today.
func TestOpen(t *testing.T) {
	b := stepped(t, book.New(1000), define(weekly(700)), define(api.Plan{Price: 5, Unit: api.Days, Every: 1, Trial: 2}), define(api.Plan{Unit: api.Days, Every: 1}))
	for _, sub := range []int{0, 1, 17, api.MaxSubs - 1} {
		want := copyOf(b)
		want.Subs[sub] = api.Account{State: api.Active, Anchor: 1000, Index: 1, Count: 1, Open: []api.Cycle{charging(0, 1000)}}
		check(t, b, open(sub, 0), want, api.OK)
		want.Subs[sub] = api.Account{State: api.Active, Plan: 1, Anchor: 1002}
		check(t, b, open(sub, 1), want, api.OK)
		want.Subs[sub] = api.Account{State: api.Active, Plan: 2, Anchor: 1000, Index: 1, Count: 1, Past: api.Sum{Done: 1}}
		check(t, b, open(sub, 2), want, api.OK)
		b = stepped(t, b, open(sub, sub%3))
	}
}

// P14.1: Open: ErrNone: no such plan; then ErrThere: the State isn't Nothing; then ErrLong.
func TestOpenErrors(t *testing.T) {
	for n := range api.MaxPlans {
		fails(t, book.New(5), open(0, n), api.ErrNone)
	}
	b := subscribed(t)
	fails(t, b, open(4, 3), api.ErrNone)
	fails(t, b, open(3, 3), api.ErrNone)
	fails(t, b, open(3, 7), api.ErrNone)
	b = stepped(t, b, of(api.Pause, 5), of(api.Cancel, 31))
	for _, sub := range []int{3, 5, 31} {
		for n := range 3 {
			fails(t, b, open(sub, n), api.ErrThere)
		}
	}
	b.Today = api.MaxDay
	fails(t, b, open(3, 1), api.ErrThere)
	fails(t, b, open(4, 1), api.ErrLong)
	fails(t, b, open(4, 3), api.ErrNone)
}

// P14.1: Open: ErrLong: today and the free days are behind MaxDay.
func TestOpenLong(t *testing.T) {
	for _, trial := range []int{0, 1, 14, api.MaxTrial} {
		p := weekly(700)
		p.Trial = trial
		b := stepped(t, book.New(api.MaxDay-trial), define(p))
		want := copyOf(b)
		want.Subs[6] = account.Open(0, p, b.Today)
		if trial == 0 {
			want.Subs[6].Index, want.Subs[6].Count, want.Subs[6].Open = 1, 1, []api.Cycle{charging(0, api.MaxDay)}
		}
		check(t, b, open(6, 0), want, api.OK)
		b.Today++
		fails(t, b, open(6, 0), api.ErrLong)
	}
}

// P14.1: Pass: so many days later, each subscription has its day; what isn't there stays so.
func TestPass(t *testing.T) {
	b := stepped(t, subscribed(t), open(0, 1), of(api.Pause, 5), hear(charge(31, 0, 1, api.Soft)))
	want := copyOf(b)
	want.Today = 1007
	want.Subs[3].Index, want.Subs[3].Count, want.Subs[3].Open = 2, 2, []api.Cycle{charging(0, 1000), charging(1, 1007)}
	want.Subs[5].Index, want.Subs[5].Count, want.Subs[5].Past.Skipped = 2, 2, 1
	again := charging(0, 1000)
	again.Try = 2
	want.Subs[31].Index, want.Subs[31].Count, want.Subs[31].Open = 2, 2, []api.Cycle{again, charging(1, 1007)}
	want.Subs[0].Index, want.Subs[0].Count = 1, 1
	want.Subs[0].Open = []api.Cycle{{Due: 1003, Phase: api.Charging, Amount: 1400, Try: 1, Goods: true}}
	check(t, b, pass(7), want, api.OK)
	// Of all 32 each has one.
	full := stepped(t, book.New(0), define(weekly(700)))
	for sub := range api.MaxSubs {
		full = stepped(t, full, open(sub, 0))
	}
	full = stepped(t, full, pass(14))
	for sub, a := range full.Subs {
		if a.Count != 3 || len(a.Open) != 3 {
			t.Errorf("%d: %+v", sub, a)
		}
	}
}

// P14.1: Pass: all days are gone by at once: of periods that were missed the last one alone counts, where the plan says so.
func TestPassAtOnce(t *testing.T) {
	last := weekly(700)
	last.Last = true
	b := stepped(t, book.New(0), define(last), open(0, 0), pass(21))
	want := api.Account{State: api.Active, Index: 4, Count: 4, Open: []api.Cycle{charging(0, 0), charging(3, 21)}, Past: api.Sum{Skipped: 2}}
	if !sameAccount(b.Subs[0], want) {
		t.Errorf("%+v", b.Subs[0])
	}
	b = stepped(t, book.New(0), define(last), open(0, 0), pass(7), pass(7), pass(7))
	want = api.Account{State: api.Active, Index: 4, Count: 4, Open: []api.Cycle{charging(0, 0), charging(1, 7), charging(2, 14), charging(3, 21)}}
	if !sameAccount(b.Subs[0], want) {
		t.Errorf("%+v", b.Subs[0])
	}
}

// P14.1: Pass: each subscription by its own plan; one that is at its end has no more periods.
func TestPassPlans(t *testing.T) {
	b := stepped(t, book.New(0), define(daily(1)), define(weekly(2)), define(api.Plan{Price: 3, Unit: api.Days, Every: 30}))
	b = stepped(t, b, open(0, 2), open(1, 1), open(2, 0), open(3, 0), of(api.Cancel, 3), pass(60))
	for sub, want := range []int{3, 9, 7, 1} {
		a := b.Subs[sub]
		if a.Count != want || len(a.Open) != want || a.Open[want-1].Amount != []int64{3, 2, 1, 1}[sub] {
			t.Errorf("%d: %+v", sub, a)
		}
	}
}

// P14.1: Pass: up to MaxDay; ErrLong: behind that.
func TestPassLong(t *testing.T) {
	for _, n := range []int{1, 2, 7, 59, 60} {
		b := book.New(api.MaxDay - n)
		check(t, b, pass(n), book.New(api.MaxDay), api.OK)
		for _, today := range []int{api.MaxDay - n + 1, api.MaxDay, api.MaxDay + 1, math.MaxInt - n, math.MaxInt - n + 1, math.MaxInt} {
			fails(t, book.New(today), pass(n), api.ErrLong)
		}
		check(t, book.New(0), pass(n), book.New(n), api.OK)
	}
	// Behind it is no day on which one could have more than there can be.
	b := stepped(t, book.New(api.MaxDay-7), define(weekly(700)), open(0, 0))
	b.Subs[0].Credit = -api.MaxMoney
	fails(t, b, pass(8), api.ErrLong)
	fails(t, b, pass(7), api.ErrMoney)
}

// P14.1: all errors of a day: if one subscription's has one, the book is none.
func TestPassMoney(t *testing.T) {
	for _, sub := range []int{3, 5, 31} {
		b := subscribed(t)
		b.Subs[sub].Credit = -api.MaxMoney
		fails(t, b, pass(7), api.ErrMoney)
		fails(t, b, pass(60), api.ErrMoney)
		want := copyOf(b)
		want.Today = 1006
		check(t, b, pass(6), want, api.OK)
		// One that is at its end has no more periods.
		b = stepped(t, b, of(api.Cancel, sub), pass(7))
		if b.Subs[sub].Count != 1 || b.Subs[sub].Credit != -api.MaxMoney {
			t.Errorf("%+v", b.Subs[sub])
		}
	}
}

// P14.1: Hear: the subscription of the answer hears it, today.
func TestHear(t *testing.T) {
	b := stepped(t, subscribed(t), pass(8))
	for _, sub := range []int{3, 5, 31} {
		want := copyOf(b)
		want.Subs[sub].Open = []api.Cycle{charging(0, 1000)}
		want.Subs[sub].Past = api.Sum{Done: 1, Paid: 700}
		check(t, b, hear(charge(sub, 1, 1, api.Yes)), want, api.OK)
		want.Subs[sub].Past = api.Sum{Unpaid: 1}
		check(t, b, hear(charge(sub, 1, 1, api.No)), want, api.OK)
		want.Subs[sub] = copyOf(b).Subs[sub]
		want.Subs[sub].Open[1].Phase, want.Subs[sub].Open[1].Next = api.Waiting, 1009
		check(t, b, hear(charge(sub, 1, 1, api.Soft)), want, api.OK)
	}
	// Of one that is at its end what was taken is given back.
	b = stepped(t, b, of(api.Cancel, 3))
	want := copyOf(b)
	want.Subs[3].Open[0].Phase = api.Refunding
	check(t, b, hear(charge(3, 0, 1, api.Yes)), want, api.OK)
}

// P14.1: Hear: ErrOld: no such subscription, or it doesn't ask that.
func TestHearOld(t *testing.T) {
	b := subscribed(t)
	for _, n := range []api.Notice{
		charge(0, 0, 1, api.Yes), charge(4, 0, 1, api.Yes), charge(30, 0, 1, api.Yes),
		charge(3, 1, 1, api.Yes), charge(3, 0, 2, api.Yes), charge(3, api.MaxDay, 1, api.Yes),
		{Kind: api.Charge, Sub: 3, Try: 1, Amount: 699, Verdict: api.Yes},
		{Kind: api.Refund, Sub: 3, Try: 1, Amount: 700, Verdict: api.Yes},
		{Kind: api.Allocate, Sub: 3, Verdict: api.Yes},
	} {
		fails(t, b, hear(n), api.ErrOld)
		fails(t, book.New(1000), hear(n), api.ErrOld)
	}
	b = stepped(t, b, hear(charge(3, 0, 1, api.Yes)))
	fails(t, b, hear(charge(3, 0, 1, api.Yes)), api.ErrOld)
	fails(t, b, hear(charge(3, 0, 1, api.No)), api.ErrOld)
	// What isn't there asks nothing, whatever stands in it.
	b.Subs[5].State = api.Nothing
	fails(t, b, hear(charge(5, 0, 1, api.Yes)), api.ErrOld)
}

// told is what an order to one subscription comes to by package account.
func told(a api.Account, o api.Order, plans plan.List, today int) (api.Account, api.Errno) {
	switch o.Kind {
	case api.Pause:
		return account.Pause(a)
	case api.Resume:
		return account.Resume(a)
	case api.Skip:
		return account.Skip(a)
	case api.Cancel:
		return account.Cancel(a)
	case api.Card:
		return account.Card(a)
	}
	return account.Change(a, plans[a.Plan], o.Plan, plans[o.Plan], today)
}

// P14.1: Pause, Resume, Skip, Cancel, Card, Change: the account's, of each state; its errors.
func TestOrders(t *testing.T) {
	waiting := []api.Order{hear(charge(3, 0, 1, api.Soft)), hear(charge(5, 0, 1, api.Soft)), hear(charge(31, 0, 1, api.Soft)), pass(4), of(api.Pause, 5), of(api.Cancel, 31)}
	b := stepped(t, subscribed(t), waiting...)
	b = stepped(t, b, hear(charge(3, 0, 2, api.Soft)), hear(charge(5, 0, 2, api.Soft)))
	seen := map[api.Errno]int{}
	for _, sub := range []int{3, 5, 31} {
		for kind := api.Change; kind <= api.Card; kind++ {
			o := of(kind, sub)
			o.Plan = map[bool]int{true: 2}[kind == api.Change]
			a, e := told(b.Subs[sub], o, b.Plans, b.Today)
			want := copyOf(b)
			want.Subs[sub] = a
			check(t, b, o, want, e)
			seen[e]++
			if e == api.OK && sameAccount(a, b.Subs[sub]) {
				t.Errorf("%v leaves %+v", o, a)
			}
		}
	}
	// All but Resume of the Active one; Resume, Skip, Cancel and Card of the Paused one; none of the Ended one.
	if seen[api.OK] != 9 || seen[api.ErrState] != 9 {
		t.Errorf("%v", seen)
	}
}

// P14.1: of these, each told by hand.
func TestOrdersByHand(t *testing.T) {
	b := subscribed(t)
	want := func(f func(a *api.Account)) book.Book {
		c := copyOf(b)
		f(&c.Subs[5])
		return c
	}
	check(t, b, of(api.Pause, 5), want(func(a *api.Account) { a.State = api.Paused }), api.OK)
	check(t, b, of(api.Skip, 5), want(func(a *api.Account) { a.Skip = true }), api.OK)
	check(t, b, of(api.Cancel, 5), want(func(a *api.Account) { a.State = api.Ended }), api.OK)
	fails(t, b, of(api.Resume, 5), api.ErrState)
	b = stepped(t, b, of(api.Pause, 5), of(api.Skip, 5), hear(charge(5, 0, 1, api.Soft)))
	check(t, b, of(api.Resume, 5), want(func(a *api.Account) { a.State = api.Active }), api.OK)
	check(t, b, of(api.Card, 5), want(func(a *api.Account) { a.Open[0].Phase, a.Open[0].Next, a.Open[0].Try = api.Charging, 0, 2 }), api.OK)
	check(t, b, of(api.Cancel, 5), want(func(a *api.Account) { a.State, a.Open, a.Past.Unpaid = api.Ended, nil, 1 }), api.OK)
	fails(t, b, of(api.Pause, 5), api.ErrState)
	fails(t, b, of(api.Skip, 5), api.ErrState)
	b = stepped(t, b, of(api.Cancel, 5))
	for _, kind := range []byte{api.Pause, api.Resume, api.Skip, api.Cancel, api.Card} {
		fails(t, b, of(kind, 5), api.ErrState)
	}
}

// P14.1: ErrNone: the subscription's State is Nothing.
func TestOrdersNone(t *testing.T) {
	b := subscribed(t)
	b.Subs[3].State = api.Nothing
	for _, sub := range []int{0, 3, 4, 30} {
		for kind := api.Change; kind <= api.Card; kind++ {
			fails(t, b, of(kind, sub), api.ErrNone)
			fails(t, book.New(1000), of(kind, sub), api.ErrNone)
		}
		fails(t, b, change(sub, 1), api.ErrNone)
		fails(t, b, change(sub, 7), api.ErrNone)
	}
}

// P14.1: Change: ErrNone: no such plan, ahead of the account's errors; the plan that was, by its number, and today.
func TestChange(t *testing.T) {
	b := stepped(t, subscribed(t), pass(3))
	fails(t, b, change(3, 3), api.ErrNone)
	fails(t, b, change(3, 7), api.ErrNone)
	fails(t, b, change(3, 0), api.ErrState)
	// Four days of seven are left: of 7.00 4.00 is given back, of 5.00 2.85 is due.
	want := copyOf(b)
	want.Subs[3].Plan, want.Subs[3].Anchor, want.Subs[3].Index, want.Subs[3].Credit = 2, 1007, 0, 115
	check(t, b, change(3, 2), want, api.OK)
	// And of 5.00 of ten days, of which four are left behind six more, 2.00 is given back; of 14.00 5.60 is due.
	b = stepped(t, b, change(3, 2), pass(10))
	want = copyOf(b)
	want.Subs[3].Plan, want.Subs[3].Anchor, want.Subs[3].Index, want.Subs[3].Credit = 1, 1017, 0, 200-560
	check(t, b, change(3, 1), want, api.OK)
	b = stepped(t, b, of(api.Pause, 3), of(api.Cancel, 5))
	for _, sub := range []int{3, 5} {
		fails(t, b, change(sub, 3), api.ErrNone)
		fails(t, b, change(sub, 1), api.ErrState)
	}
	b.Subs[31].Credit = api.MaxMoney
	fails(t, b, change(31, 1), api.ErrMoney)
}

// P14.1: Change: ErrState: the next period would begin behind MaxDay.
func TestChangeLong(t *testing.T) {
	b := stepped(t, book.New(api.MaxDay-9), define(daily(100)), define(weekly(100)), open(0, 0), open(1, 1))
	fails(t, b, change(0, 1), api.ErrState)
	b = stepped(t, b, change(1, 0))
	if b.Subs[1].Anchor != api.MaxDay-2 {
		t.Errorf("%+v", b.Subs[1])
	}
}

// P14.1: Asks: what subscriptions ask, by their numbers, then as their cycles began.
func TestAsks(t *testing.T) {
	b := stepped(t, subscribed(t), open(0, 1), pass(7), hear(charge(5, 0, 1, api.Yes)), hear(charge(31, 0, 1, api.Soft)), of(api.Cancel, 31), hear(charge(31, 1, 1, api.Yes)))
	want := []api.Notice{
		{Kind: api.Charge, Sub: 0, Cycle: 0, Try: 1, Amount: 1400},
		charge(3, 0, 1, api.Ask), charge(3, 1, 1, api.Ask),
		charge(5, 1, 1, api.Ask),
		{Kind: api.Refund, Sub: 31, Cycle: 1, Amount: 700},
	}
	if got := b.Asks(); !slices.Equal(got, want) {
		t.Errorf("%v; asked for is %v", got, want)
	}
	b = stepped(t, b, hear(api.Notice{Kind: api.Charge, Try: 1, Amount: 1400, Verdict: api.Yes}))
	want[0] = api.Notice{Kind: api.Allocate}
	if got := b.Asks(); !slices.Equal(got, want) {
		t.Errorf("%v; asked for is %v", got, want)
	}
	for _, b := range []book.Book{{}, book.New(7), stepped(t, book.New(7), define(daily(1)))} {
		if got := b.Asks(); len(got) != 0 {
			t.Errorf("%v", got)
		}
	}
}

// Rule of memory: the book that is answered has lists of its own: what is written to, or appended to, either isn't seen in the other.
func TestOwnLists(t *testing.T) {
	orders := []api.Order{
		define(daily(9)), open(6, 0), pass(1), pass(7), hear(charge(3, 0, 1, api.Yes)), hear(charge(3, 1, 1, api.Soft)),
		of(api.Pause, 3), of(api.Skip, 3), of(api.Card, 3), of(api.Cancel, 3), change(3, 1),
	}
	for _, o := range orders {
		b := stepped(t, subscribed(t), pass(7), pass(7))
		for sub := range b.Subs {
			b.Subs[sub].Open = slices.Grow(b.Subs[sub].Open, 3)
		}
		b.Plans = slices.Grow(b.Plans, 3)
		c := stepped(t, b, o)
		d := stepped(t, b, o)
		ahead, behind := copyOf(b), copyOf(c)
		scribble(&d)
		if !same(b, ahead) || !same(c, behind) {
			t.Errorf("%v: the lists are shared", o)
		}
		scribble(&b)
		if !same(c, behind) {
			t.Errorf("%v: the lists are those of the book ahead", o)
		}
	}
}

// scribble writes over all lists of a book, and behind them.
func scribble(b *book.Book) {
	for i := range b.Plans {
		b.Plans[i].Price = -77
	}
	b.Plans = append(b.Plans, api.Plan{Price: -78})
	for sub := range b.Subs {
		for i := range b.Subs[sub].Open {
			b.Subs[sub].Open[i].No = -79
		}
		b.Subs[sub].Open = append(b.Subs[sub].Open, api.Cycle{No: -80})
	}
}

// Rule of memory: what Asks answers may be appended to, and written over.
func TestAsksOwnList(t *testing.T) {
	b := subscribed(t)
	ahead := copyOf(b)
	l := b.Asks()
	for i := range l {
		l[i].Sub = -1
	}
	if m := b.Asks(); !same(b, ahead) || len(m) != 3 || m[0] != charge(3, 0, 1, api.Ask) {
		t.Errorf("%v", m)
	}
}

// wild are books to which no orders lead.
func wild() []book.Book {
	numbers := []int{math.MinInt, -1, 0, 1, 1000, api.MaxDay - 5, api.MaxDay + 1, math.MaxInt}
	var l []book.Book
	for i, today := range numbers {
		b := book.Book{Today: today}
		for j := range numbers {
			b.Plans = append(b.Plans, api.Plan{Price: int64(numbers[(i+j)%8]), Unit: byte(j), Every: numbers[(i+2*j)%8], Trial: numbers[(i+3*j)%8], Last: true})
		}
		for sub := range b.Subs {
			n := numbers[(sub+i)%8]
			open := []api.Cycle{{No: n, Due: n, Phase: byte(sub), Amount: int64(n), Used: int64(n), Try: n, Next: n}, {Phase: byte(sub % 8)}}
			b.Subs[sub] = api.Account{State: byte(sub % 6), Plan: (sub + i) % 12, Anchor: n, Index: numbers[(sub/2)%8], Count: n, Credit: int64(n), Open: open}
		}
		b.Subs[0].Plan = math.MinInt
		l = append(l, b)
	}
	return l
}

// P1: all calls end, of books to which no orders lead, too; beside an error there is no book.
func TestWildBooks(t *testing.T) {
	orders := []api.Order{define(daily(1)), pass(1), pass(60), {}, {Kind: 255, Sub: -1, Plan: -1, N: -1}}
	for sub := range api.MaxSubs {
		for n := range api.MaxPlans {
			orders = append(orders, open(sub, n), change(sub, n))
		}
		for kind := api.Pause; kind <= api.Card; kind++ {
			orders = append(orders, of(kind, sub))
		}
		for kind := api.Charge; kind <= api.Ship; kind++ {
			orders = append(orders, hear(api.Notice{Kind: kind, Sub: sub, Verdict: api.Yes}), hear(api.Notice{Kind: kind, Sub: sub, Cycle: 1, Try: 1, Amount: 1, Verdict: api.Soft}))
		}
	}
	for _, b := range wild() {
		b.Asks()
		book.Decode(b.Encode())
		for _, o := range orders {
			ahead := copyOf(b)
			c, e := b.Step(o)
			if e != api.OK && !same(c, book.Book{}) {
				t.Errorf("Step(%v) = %+v, %d", o, c, e)
			}
			if !same(b, ahead) {
				t.Fatalf("Step(%v) has made %+v of %+v", o, b, ahead)
			}
		}
	}
}

// A subscription of which the plan isn't there has no day, and no change; one that isn't there needs none.
func TestNoPlan(t *testing.T) {
	b := subscribed(t)
	b.Plans = b.Plans[1:2]
	b.Subs[5].Plan = 1
	fails(t, b, pass(1), api.ErrNone)
	fails(t, b, change(5, 0), api.ErrNone)
	b = book.New(1000)
	b.Subs[5].Plan = 9
	want := copyOf(b)
	want.Today = 1001
	check(t, b, pass(1), want, api.OK)
}

// P2: the same steps lead to the same books, whatever was done between.
func TestAnswersDependOnArguments(t *testing.T) {
	b := stepped(t, subscribed(t), pass(7))
	p := b.Encode()
	stepped(t, b, hear(charge(3, 0, 1, api.Yes)), of(api.Cancel, 5), pass(60))
	fails(t, b, define(api.Plan{}), api.ErrArg)
	c := stepped(t, subscribed(t), pass(7))
	if !same(b, c) || string(c.Encode()) != string(p) || string(b.Encode()) != string(p) || !slices.Equal(b.Asks(), c.Asks()) {
		t.Errorf("%+v, then %+v", b, c)
	}
}
