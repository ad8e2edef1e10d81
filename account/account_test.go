package account_test

import (
	"fmt"
	"math"
	"reflect"
	"slices"
	"testing"

	"paybook/account"
	"paybook/api"
	"paybook/civil"
	"paybook/cycle"
)

// same: are two accounts the same? (A nil list and an empty one are.)
func same(a, b api.Account) bool {
	if !slices.Equal(a.Open, b.Open) {
		return false
	}
	a.Open, b.Open = nil, nil
	return reflect.DeepEqual(a, b)
}

// check: an account, and an error beside it, are as asked for; beside an error there is none.
func check(t *testing.T, what string, got api.Account, e api.Errno, want api.Account, wantErr api.Errno) {
	t.Helper()
	if wantErr != api.OK {
		want = api.Account{}
	}
	if !same(got, want) || e != wantErr {
		t.Errorf("%s = %+v, %d; asked for is %+v, %d", what, got, e, want, wantErr)
	}
}

// day is the number of a day that is told as a text.
func day(t *testing.T, s string) int {
	t.Helper()
	d, e := civil.Parse(s)
	n, f := civil.Number(d)
	if e != api.OK || f != api.OK {
		t.Fatalf("no day: %q", s)
	}
	return n
}

// allPhases is an account with an open cycle of each phase that isn't at its end, and something in each field.
func allPhases(state byte) api.Account {
	return api.Account{
		State: state, Plan: 3, Anchor: 1000, Index: 7, Count: 16, Credit: 77, Skip: false,
		Open: []api.Cycle{
			{No: 10, Due: 1000, Phase: api.Charging, Amount: 500, Used: 1, Try: 2, Goods: true},
			{No: 11, Due: 1001, Phase: api.Waiting, Amount: 600, Used: 20, Try: 1, Next: 1010, Goods: true},
			{No: 12, Due: 1002, Phase: api.Allocating, Amount: 0, Used: 300, Goods: true},
			{No: 13, Due: 1003, Phase: api.Shipping, Amount: 800, Used: -4000, Try: 1, Goods: true},
			{No: 14, Due: 1004, Phase: api.Releasing, Amount: 900, Used: 50000, Try: 3, Goods: true},
			{No: 15, Due: 1005, Phase: api.Refunding, Amount: 950, Used: 600000, Try: 4, Goods: true},
		},
		Past: api.Sum{Done: 1, Unpaid: 2, Refunded: 3, Skipped: 4, Paid: 5000},
	}
}

// daily is a plan of a price of a period of 10 days.
func daily(price int64) api.Plan {
	return api.Plan{Price: price, Unit: api.Days, Every: 10}
}

// The example of the chapter.
func TestExample(t *testing.T) {
	p := api.Plan{Price: 100, Unit: api.Days, Every: 30}
	a, e := account.Day(account.Open(0, p, 5), p, 5)
	if e != api.OK || len(a.Open) != 1 || a.Open[0] != (api.Cycle{Due: 5, Phase: api.Charging, Amount: 100, Try: 1}) {
		t.Errorf("%+v, %d", a, e)
	}
}

// P13.1: Open: Active, of a plan, its Anchor behind the free days; all else nothing.
func TestOpen(t *testing.T) {
	for _, n := range []int{0, 1, 7} {
		for _, trial := range []int{0, 1, 14, api.MaxTrial} {
			for _, today := range []int{0, 1000, api.MaxDay - api.MaxTrial, api.MaxDay} {
				p := api.Plan{Price: 999, Unit: api.Months, Every: 3, Trial: trial, Goods: true, Last: true}
				want := api.Account{State: api.Active, Plan: n, Anchor: today + trial}
				if got := account.Open(n, p, today); !same(got, want) {
					t.Errorf("Open(%d, %v, %d) = %+v; asked for is %+v", n, p, today, got, want)
				}
			}
		}
	}
}

// P13.1: periods begin on their days, each once, by the anchor's day of the month; their cycles have the numbers from Count on.
func TestDayOfMonths(t *testing.T) {
	p := api.Plan{Price: 100, Unit: api.Months, Every: 1, Trial: 3}
	a := account.Open(2, p, day(t, "2023-01-28"))
	var dues []int
	for _, c := range []struct {
		today string
		due   []string
	}{
		{"2023-01-28", nil}, {"2023-01-30", nil}, {"2023-01-31", []string{"2023-01-31"}}, {"2023-01-31", nil}, {"2023-02-27", nil},
		{"2023-02-28", []string{"2023-02-28"}}, {"2023-03-30", nil}, {"2023-06-29", []string{"2023-03-31", "2023-04-30", "2023-05-31"}},
		{"2023-06-30", []string{"2023-06-30"}}, {"2023-06-30", nil}, {"2023-01-01", nil},
	} {
		for _, s := range c.due {
			dues = append(dues, day(t, s))
		}
		var e api.Errno
		a, e = account.Day(a, p, day(t, c.today))
		if e != api.OK || a.Index != len(dues) || a.Count != len(dues) || len(a.Open) != len(dues) {
			t.Fatalf("on %s: %+v, %d; asked for are cycles of %v", c.today, a, e, dues)
		}
		for i, x := range a.Open {
			if want := (api.Cycle{No: i, Due: dues[i], Phase: api.Charging, Amount: 100, Try: 1}); x != want {
				t.Errorf("on %s: %+v; asked for is %+v", c.today, x, want)
			}
		}
	}
}

// P13.1: Index and Count go on from where they are; each has its own number.
func TestDayIndexAndCount(t *testing.T) {
	a := api.Account{State: api.Active, Plan: 1, Anchor: 1000, Index: 5, Count: 9, Past: api.Sum{Done: 9}}
	got, e := account.Day(a, daily(100), 1065)
	want := a
	want.Index, want.Count = 7, 11
	want.Open = []api.Cycle{
		{No: 9, Due: 1050, Phase: api.Charging, Amount: 100, Try: 1},
		{No: 10, Due: 1060, Phase: api.Charging, Amount: 100, Try: 1},
	}
	check(t, "Day", got, e, want, api.OK)
}

// P13.1: amounts: the price without the credit, which went into it; Used and Credit, told by hand.
func TestDayAmounts(t *testing.T) {
	for _, c := range []struct {
		price, credit      int64
		amount, used, left int64
	}{
		{1000, 0, 1000, 0, 0},
		{1000, 1, 999, 1, 0},
		{1000, 300, 700, 300, 0},
		{1000, 999, 1, 999, 0},
		{1000, 1000, 0, 1000, 0},
		{1000, 1001, 0, 1000, 1},
		{1000, 2500, 0, 1000, 1500},
		{1000, -1, 1001, -1, 0},
		{1000, -2500, 3500, -2500, 0},
		{0, 0, 0, 0, 0},
		{0, 5, 0, 0, 5},
		{0, -5, 5, -5, 0},
		{1, api.MaxMoney, 0, 1, api.MaxMoney - 1},
		{api.MaxPrice, api.MaxMoney, 0, api.MaxPrice, api.MaxMoney - api.MaxPrice},
		{api.MaxPrice, api.MaxPrice - api.MaxMoney, api.MaxMoney, api.MaxPrice - api.MaxMoney, 0},
		{0, -api.MaxMoney, api.MaxMoney, -api.MaxMoney, 0},
		{0, api.MaxMoney, 0, 0, api.MaxMoney},
	} {
		for _, goods := range []bool{false, true} {
			p := daily(c.price)
			p.Goods = goods
			a := api.Account{State: api.Active, Anchor: 1000, Count: 4, Credit: c.credit}
			want := api.Account{State: api.Active, Anchor: 1000, Index: 1, Count: 5, Credit: c.left}
			x := api.Cycle{No: 4, Due: 1000, Amount: c.amount, Used: c.used, Goods: goods}
			switch {
			case c.amount > 0:
				x.Phase, x.Try = api.Charging, 1
				want.Open = []api.Cycle{x}
			case goods:
				x.Phase = api.Allocating
				want.Open = []api.Cycle{x}
			default:
				want.Past.Done = 1
			}
			got, e := account.Day(a, p, 1000)
			check(t, fmt.Sprint("Day of price ", c.price, ", credit ", c.credit), got, e, want, api.OK)
		}
	}
}

// P13.1: credit goes through period by period.
func TestDayCreditOfMany(t *testing.T) {
	a := api.Account{State: api.Active, Anchor: 1000, Credit: 250}
	got, e := account.Day(a, daily(100), 1039)
	want := api.Account{
		State: api.Active, Anchor: 1000, Index: 4, Count: 4,
		Open: []api.Cycle{
			{No: 2, Due: 1020, Phase: api.Charging, Amount: 50, Used: 50, Try: 1},
			{No: 3, Due: 1030, Phase: api.Charging, Amount: 100, Try: 1},
		},
		Past: api.Sum{Done: 2},
	}
	check(t, "Day", got, e, want, api.OK)
}

// P13.1: ErrMoney: purse's, where a cycle has an amount; beside it there is no account.
func TestDayMoney(t *testing.T) {
	for _, c := range []struct{ price, credit int64 }{
		{1, -api.MaxMoney}, {api.MaxPrice, api.MaxPrice - api.MaxMoney - 1}, {0, -api.MaxMoney - 1}, {0, api.MaxMoney + 1}, {5, math.MinInt64}, {5, math.MaxInt64},
		{api.MaxMoney + 1, 1}, {-api.MaxMoney - 1, -1},
	} {
		a := allPhases(api.Active)
		a.Anchor, a.Index, a.Credit = 1000, 0, c.credit
		got, e := account.Day(a, daily(c.price), 1000)
		check(t, fmt.Sprint("Day of ", c), got, e, api.Account{}, api.ErrMoney)
		// What is passed over has no amount.
		a.Open = nil
		a.State = api.Paused
		want := a
		want.Index, want.Count, want.Past.Skipped = 1, 17, 5
		got, e = account.Day(a, daily(c.price), 1000)
		check(t, fmt.Sprint("Day of paused ", c), got, e, want, api.OK)
		a.State, want.State = api.Active, api.Active
		a.Skip = true
		got, e = account.Day(a, daily(c.price), 1000)
		check(t, fmt.Sprint("Day of skipped ", c), got, e, want, api.OK)
		// Of many the first ones are none, either, if a later one has the error.
		got, e = account.Day(a, daily(c.price), 1010)
		check(t, fmt.Sprint("Day behind skipped ", c), got, e, api.Account{}, api.ErrMoney)
	}
}

// P13.1: each open cycle Wakes, of all states; the others stay.
func TestDayWakes(t *testing.T) {
	for state := range 256 {
		for _, today := range []int{0, 1009, 1010, 1011} {
			a := allPhases(byte(state))
			a.Anchor, a.Index = 2000, 0
			a.Open = append(a.Open, api.Cycle{No: 9, Due: 999, Phase: api.Waiting, Amount: 60, Try: 3, Next: 1011})
			want := account.Copy(a)
			if today >= 1010 {
				want.Open[1].Phase, want.Open[1].Try, want.Open[1].Next = api.Charging, 2, 0
			}
			if today >= 1011 {
				want.Open[6].Phase, want.Open[6].Try, want.Open[6].Next = api.Charging, 4, 0
			}
			got, e := account.Day(a, daily(100), today)
			check(t, fmt.Sprint("Day of state ", state, " on ", today), got, e, want, api.OK)
		}
	}
}

// P13.1: of one that is Ended no periods begin; what is open Wakes; Skip stays.
func TestDayOfEnded(t *testing.T) {
	a := allPhases(api.Ended)
	a.Index, a.Skip = 0, true
	want := account.Copy(a)
	want.Open[1].Phase, want.Open[1].Try, want.Open[1].Next = api.Charging, 2, 0
	got, e := account.Day(a, daily(100), 1500)
	check(t, "Day", got, e, want, api.OK)
}

// P13.1: cycles behind those that are open, in order; they don't Wake.
func TestDayBehindOpen(t *testing.T) {
	a := allPhases(api.Active)
	a.Anchor, a.Index, a.Credit = 1000, 0, 0
	want := account.Copy(a)
	want.Open[1].Phase, want.Open[1].Try, want.Open[1].Next = api.Charging, 2, 0
	want.Open = append(want.Open,
		api.Cycle{No: 16, Due: 1000, Phase: api.Charging, Amount: 100, Try: 1},
		api.Cycle{No: 17, Due: 1010, Phase: api.Charging, Amount: 100, Try: 1})
	want.Index, want.Count = 2, 18
	got, e := account.Day(a, daily(100), 1015)
	check(t, "Day", got, e, want, api.OK)
}

// P13.1: what is passed over: of one that is Paused, by Skip, as missed; what becomes of Skip; told by hand. Periods begin from 1000 on, each 10 days.
func TestDayPassesOver(t *testing.T) {
	for _, c := range []struct {
		name       string
		state      byte
		skip, last bool
		today      int
		dues       []int // of what begins
		skipped    int
		skipStays  bool
	}{
		{"ahead of all", api.Active, false, false, 999, nil, 0, false},
		{"one", api.Active, false, false, 1009, []int{1000}, 0, false},
		{"three", api.Active, false, false, 1020, []int{1000, 1010, 1020}, 0, false},
		{"paused", api.Paused, false, false, 1020, nil, 3, false},
		{"paused, the last one counts", api.Paused, false, true, 1020, nil, 3, false},
		{"paused with Skip", api.Paused, true, false, 1020, nil, 3, true},
		{"paused with Skip, the last one counts", api.Paused, true, true, 1020, nil, 3, true},
		{"Skip ahead of all", api.Active, true, false, 999, nil, 0, true},
		{"Skip of one", api.Active, true, false, 1000, nil, 1, false},
		{"Skip of the first of three", api.Active, true, false, 1020, []int{1010, 1020}, 1, false},
		{"the last one counts of none", api.Active, false, true, 999, nil, 0, false},
		{"the last one counts of one", api.Active, false, true, 1009, []int{1000}, 0, false},
		{"the last one counts of two", api.Active, false, true, 1010, []int{1010}, 1, false},
		{"the last one counts of three", api.Active, false, true, 1029, []int{1020}, 2, false},
		{"Skip where the last one of one counts", api.Active, true, true, 1009, nil, 1, false},
		{"Skip where the last one of two counts", api.Active, true, true, 1010, nil, 2, false},
		{"Skip where the last one of three counts", api.Active, true, true, 1029, nil, 3, false},
	} {
		p := daily(100)
		p.Last = c.last
		a := api.Account{State: c.state, Plan: 2, Anchor: 1000, Skip: c.skip, Past: api.Sum{Skipped: 5, Unpaid: 1}, Count: 6}
		want := a
		want.Skip = c.skipStays
		want.Index = max(0, (c.today-990)/10)
		want.Count += want.Index
		want.Past.Skipped += c.skipped
		for _, due := range c.dues {
			want.Open = append(want.Open, api.Cycle{No: 6 + (due-1000)/10, Due: due, Phase: api.Charging, Amount: 100, Try: 1})
		}
		got, e := account.Day(a, p, c.today)
		check(t, "Day, "+c.name, got, e, want, api.OK)
	}
}

// P13.1: what is passed over leaves the credit.
func TestDayPassesOverCredit(t *testing.T) {
	for _, credit := range []int64{-50, 0, 50, 500} {
		p := daily(100)
		p.Last = true
		for _, a := range []api.Account{
			{State: api.Paused, Anchor: 1000, Credit: credit},
			{State: api.Active, Anchor: 1000, Credit: credit, Skip: true},
		} {
			want := a
			want.Index, want.Count, want.Past.Skipped, want.Skip = 3, 3, 3, false
			got, e := account.Day(a, p, 1020)
			check(t, "Day", got, e, want, api.OK)
		}
	}
}

// P13.1: one that was paused goes on with the next period alone.
func TestDayBehindResume(t *testing.T) {
	a, _ := account.Day(account.Open(0, daily(100), 1000), daily(100), 1000)
	a, _ = account.Pause(a)
	a, _ = account.Day(a, daily(100), 1010)
	a, _ = account.Resume(a)
	got, e := account.Day(a, daily(100), 1020)
	want := api.Account{
		State: api.Active, Anchor: 1000, Index: 3, Count: 3,
		Open: []api.Cycle{{Due: 1000, Phase: api.Charging, Amount: 100, Try: 1}, {No: 2, Due: 1020, Phase: api.Charging, Amount: 100, Try: 1}},
		Past: api.Sum{Skipped: 1},
	}
	check(t, "Day", got, e, want, api.OK)
}

// P13.1: at the last day periods end: a next one that would be behind it is none, and makes none missed.
func TestDayAtLastDay(t *testing.T) {
	for _, last := range []bool{false, true} {
		for _, c := range []struct {
			anchor, today int
			dues          []int
		}{
			{api.MaxDay, api.MaxDay - 1, nil},
			{api.MaxDay, api.MaxDay, []int{api.MaxDay}},
			{api.MaxDay - 9, api.MaxDay, []int{api.MaxDay - 9}},
			{api.MaxDay - 10, api.MaxDay, []int{api.MaxDay - 10, api.MaxDay}},
			{api.MaxDay - 25, api.MaxDay, []int{api.MaxDay - 25, api.MaxDay - 15, api.MaxDay - 5}},
			{api.MaxDay - 25, math.MaxInt, []int{api.MaxDay - 25, api.MaxDay - 15, api.MaxDay - 5}},
			{api.MaxDay + 1, math.MaxInt, nil},
		} {
			p := daily(100)
			p.Last = last
			a := api.Account{State: api.Active, Anchor: c.anchor}
			want := a
			want.Index, want.Count = len(c.dues), len(c.dues)
			for i, due := range c.dues {
				if last && i < len(c.dues)-1 {
					want.Past.Skipped++
					continue
				}
				want.Open = append(want.Open, api.Cycle{No: i, Due: due, Phase: api.Charging, Amount: 100, Try: 1})
			}
			got, e := account.Day(a, p, c.today)
			check(t, fmt.Sprint("Day of ", c, " ", last), got, e, want, api.OK)
		}
	}
}

// P13.1: where there is no Nth there is no period: of a plan, an anchor, an Index that can't be. What is open Wakes.
func TestDayWithoutPeriods(t *testing.T) {
	for _, c := range []struct {
		p             api.Plan
		anchor, index int
	}{
		{api.Plan{Price: 1}, 1000, 0},
		{api.Plan{Price: 1, Every: -1}, 1000, 0},
		{api.Plan{Price: 1, Every: api.MaxEvery + 1}, 1000, 0},
		{api.Plan{Price: 1, Every: 1, Unit: api.Years + 1}, 1000, 0},
		{api.Plan{Price: 1, Every: 1}, -1, 0},
		{api.Plan{Price: 1, Every: 1}, math.MinInt, 0},
		{api.Plan{Price: 1, Every: 1}, math.MaxInt, 0},
		{api.Plan{Price: 1, Every: 1}, 1000, -1},
		{api.Plan{Price: 1, Every: 1}, 0, api.MaxDay + 1},
		{api.Plan{Price: 1, Every: 1}, 1000, math.MinInt},
		{api.Plan{Price: 1, Every: 1}, 1000, math.MaxInt},
	} {
		a := allPhases(api.Active)
		a.Anchor, a.Index = c.anchor, c.index
		want := account.Copy(a)
		want.Open[1].Phase, want.Open[1].Try, want.Open[1].Next = api.Charging, 2, 0
		got, e := account.Day(a, c.p, api.MaxDay)
		check(t, fmt.Sprint("Day of ", c), got, e, want, api.OK)
	}
}

// P13.1, P6: whatever days were missed, each period is there, once: one Day does what a Day of each day does.
func TestDayByDay(t *testing.T) {
	for _, p := range []api.Plan{
		daily(100), {Price: 300, Unit: api.Weeks, Every: 2, Trial: 5}, {Price: 999, Unit: api.Months, Every: 1, Goods: true}, {Price: 0, Unit: api.Months, Every: 2, Trial: 40},
	} {
		for _, credit := range []int64{0, 450, -70} {
			a := account.Open(1, p, day(t, "2023-12-31"))
			a.Credit = credit
			a, _ = account.Skip(a)
			slow := a
			for today := day(t, "2023-12-31"); today < day(t, "2025-04-01"); today++ {
				var e, f api.Errno
				slow, e = account.Day(slow, p, today)
				quick, f := account.Day(a, p, today)
				if e != f || !same(slow, quick) {
					t.Fatalf("%v: %+v, %d; day by day %+v, %d", p, quick, f, slow, e)
				}
			}
			if slow.Count < 6 {
				t.Errorf("%+v", slow)
			}
		}
	}
}

// answer is the answer of a verdict to what a cycle asks.
func answer(t *testing.T, sub int, c api.Cycle, verdict byte) api.Notice {
	t.Helper()
	n, ok := cycle.Asks(sub, c)
	if !ok {
		t.Fatalf("%+v asks nothing", c)
	}
	n.Verdict = verdict
	return n
}

// P13.2: an answer to each of the open cycles: it Hears it, by the account's end or not; what is at its end is past. Told by hand of allPhases.
func TestHear(t *testing.T) {
	for _, c := range []struct {
		at      int
		state   byte
		verdict byte
		phase   byte // 0: it isn't open any more
		past    api.Sum
		credit  int64
	}{
		{0, api.Active, api.Yes, api.Allocating, api.Sum{}, 0},
		{0, api.Paused, api.Yes, api.Allocating, api.Sum{}, 0},
		{0, api.Ended, api.Yes, api.Refunding, api.Sum{}, 0},
		{0, api.Active, api.Soft, api.Waiting, api.Sum{}, 0},
		{0, api.Paused, api.Soft, api.Waiting, api.Sum{}, 0},
		{0, api.Ended, api.Soft, 0, api.Sum{Unpaid: 1}, 1},
		{0, api.Active, api.No, 0, api.Sum{Unpaid: 1}, 1},
		{0, api.Ended, api.No, 0, api.Sum{Unpaid: 1}, 1},
		{2, api.Active, api.Yes, api.Shipping, api.Sum{}, 0},
		{2, api.Paused, api.Yes, api.Shipping, api.Sum{}, 0},
		{2, api.Ended, api.Yes, api.Releasing, api.Sum{}, 0},
		{2, api.Active, api.No, 0, api.Sum{Refunded: 1}, 300},
		{2, api.Ended, api.Soft, 0, api.Sum{Refunded: 1}, 300},
		{3, api.Active, api.Yes, 0, api.Sum{Done: 1, Paid: 800}, 0},
		{3, api.Ended, api.Yes, 0, api.Sum{Done: 1, Paid: 800}, 0},
		{3, api.Active, api.No, api.Releasing, api.Sum{}, 0},
		{4, api.Active, api.Yes, api.Refunding, api.Sum{}, 0},
		{4, api.Ended, api.No, api.Refunding, api.Sum{}, 0},
		{5, api.Active, api.Yes, 0, api.Sum{Refunded: 1}, 600000},
		{5, api.Paused, api.Yes, 0, api.Sum{Refunded: 1}, 600000},
		{5, api.Ended, api.No, 0, api.Sum{Refunded: 1}, 600000},
	} {
		a := allPhases(c.state)
		a.Skip = true
		want := account.Copy(a)
		want.Open[c.at].Phase = c.phase
		if c.phase == api.Waiting {
			want.Open[c.at].Next = 1203
		}
		if c.phase == 0 {
			want.Open = slices.Delete(want.Open, c.at, c.at+1)
		}
		want.Past = api.Sum{Done: 1 + c.past.Done, Unpaid: 2 + c.past.Unpaid, Refunded: 3 + c.past.Refunded, Skipped: 4 + c.past.Skipped, Paid: 5000 + c.past.Paid}
		want.Credit += c.credit
		for _, sub := range []int{0, 9, 31} {
			got, e := account.Hear(sub, a, answer(t, sub, a.Open[c.at], c.verdict), 1200)
			check(t, fmt.Sprintf("Hear of %+v", c), got, e, want, api.OK)
		}
	}
}

// P13.2: it is the number that tells the cycle, not the place.
func TestHearByNumber(t *testing.T) {
	a := allPhases(api.Active)
	slices.Reverse(a.Open)
	for i, c := range a.Open {
		if c.Phase == api.Waiting {
			continue
		}
		want := account.Copy(a)
		want.Open[i], _ = cycle.Hear(9, c, answer(t, 9, c, api.Yes), 1200, false)
		switch c.Phase {
		case api.Shipping:
			want.Past.Done, want.Past.Paid = 2, 5800
		case api.Refunding:
			want.Past.Refunded, want.Credit = 4, 77+600000
		}
		want.Open = slices.DeleteFunc(want.Open, cycle.Ended)
		got, e := account.Hear(9, a, answer(t, 9, c, api.Yes), 1200)
		check(t, fmt.Sprintf("Hear of %+v", c), got, e, want, api.OK)
	}
}

// P13.2: what was below 0 is credit again, too, and what comes of both.
func TestHearUsed(t *testing.T) {
	for _, c := range []struct{ credit, used, want int64 }{
		{0, 0, 0}, {0, 30, 30}, {0, -30, -30}, {100, -130, -30}, {-100, 130, 30}, {-5, -6, -11}, {api.MaxMoney - 1, 1, api.MaxMoney}, {1 - api.MaxMoney, -1, -api.MaxMoney},
	} {
		for _, x := range []api.Cycle{
			{Phase: api.Charging, Amount: 50, Used: c.used, Try: 1},
			{Phase: api.Allocating, Used: c.used, Goods: true},
			{Phase: api.Refunding, Amount: 50, Used: c.used, Try: 1, Goods: true},
		} {
			a := api.Account{State: api.Active, Count: 1, Credit: c.credit, Open: []api.Cycle{x}}
			got, e := account.Hear(4, a, answer(t, 4, x, api.No), 10)
			want := api.Account{State: api.Active, Count: 1, Credit: c.want, Past: api.Sum{Unpaid: 1}}
			if x.Phase != api.Charging {
				want.Past = api.Sum{Refunded: 1}
			}
			check(t, fmt.Sprint("Hear of ", c), got, e, want, api.OK)
		}
	}
}

// P13.2: what is Done is Paid, and its Used isn't credit again; without goods it is Done by its charge.
func TestHearPaid(t *testing.T) {
	x := api.Cycle{No: 3, Phase: api.Charging, Amount: 70, Used: 30, Try: 2}
	a := api.Account{State: api.Active, Count: 4, Credit: 5, Open: []api.Cycle{x}, Past: api.Sum{Done: 3, Paid: 1000}}
	want := api.Account{State: api.Active, Count: 4, Credit: 5, Past: api.Sum{Done: 4, Paid: 1070}}
	got, e := account.Hear(0, a, answer(t, 0, x, api.Yes), 10)
	check(t, "Hear", got, e, want, api.OK)
}

// P13.2: Hear has no error but ErrOld: sums beyond MaxMoney are told as they are.
func TestHearBeyondMaxMoney(t *testing.T) {
	x := api.Cycle{Phase: api.Charging, Amount: 70, Used: 30, Try: 2}
	a := api.Account{State: api.Active, Count: 1, Credit: api.MaxMoney, Open: []api.Cycle{x}, Past: api.Sum{Paid: api.MaxMoney}}
	want := a
	want.Open, want.Past = nil, api.Sum{Done: 1, Paid: api.MaxMoney + 70}
	got, e := account.Hear(0, a, answer(t, 0, x, api.Yes), 10)
	check(t, "Hear", got, e, want, api.OK)
	want.Past, want.Credit = api.Sum{Unpaid: 1, Paid: api.MaxMoney}, api.MaxMoney+30
	got, e = account.Hear(0, a, answer(t, 0, x, api.No), 10)
	check(t, "Hear", got, e, want, api.OK)
}

// P13.2: ErrOld: no open cycle has the number, or it doesn't ask that; beside it there is no account.
func TestHearOld(t *testing.T) {
	for _, state := range []byte{api.Nothing, api.Active, api.Paused, api.Ended} {
		a := allPhases(state)
		for i, c := range a.Open {
			if c.Phase == api.Waiting {
				n := api.Notice{Kind: api.Charge, Sub: 9, Cycle: c.No, Try: c.Try, Amount: c.Amount, Verdict: api.Yes}
				got, e := account.Hear(9, a, n, 1200)
				check(t, "Hear of one that waits", got, e, api.Account{}, api.ErrOld)
				continue
			}
			n := answer(t, 9, c, api.Yes)
			for _, other := range []func(*api.Notice){
				func(n *api.Notice) { n.Verdict = api.Ask },
				func(n *api.Notice) { n.Kind = n.Kind%5 + 1 },
				func(n *api.Notice) { n.Sub = 8 },
				func(n *api.Notice) { n.Cycle = 9 },
				func(n *api.Notice) { n.Cycle = 16 },
				func(n *api.Notice) { n.Cycle = -1 },
				func(n *api.Notice) { n.Cycle += 1 << 32 },
				func(n *api.Notice) { n.Cycle = a.Open[(i+1)%len(a.Open)].No },
				func(n *api.Notice) { n.Try++ },
				func(n *api.Notice) { n.Amount++ },
			} {
				x := n
				other(&x)
				got, e := account.Hear(9, a, x, 1200)
				check(t, fmt.Sprintf("Hear of %+v", x), got, e, api.Account{}, api.ErrOld)
			}
			// An answer to a cycle that isn't open any more is old.
			b := account.Copy(a)
			b.Open = slices.Delete(b.Open, i, i+1)
			got, e := account.Hear(9, b, n, 1200)
			check(t, fmt.Sprintf("Hear of %+v", n), got, e, api.Account{}, api.ErrOld)
		}
		got, e := account.Hear(0, api.Account{State: state}, api.Notice{Kind: api.Charge, Verdict: api.Yes}, 5)
		check(t, "Hear of none", got, e, api.Account{}, api.ErrOld)
	}
}

// P13.2: what each state lets be done, of all 256.
func TestStates(t *testing.T) {
	for state := range 256 {
		a := allPhases(byte(state))
		active, paused := state == 1, state == 2
		for _, c := range []struct {
			name string
			call func(api.Account) (api.Account, api.Errno)
			ok   bool
			want func(*api.Account)
		}{
			{"Pause", account.Pause, active, func(w *api.Account) { w.State = 2 }},
			{"Resume", account.Resume, paused, func(w *api.Account) { w.State = 1 }},
			{"Skip", account.Skip, active || paused, func(w *api.Account) { w.Skip = true }},
			{"Cancel", account.Cancel, active || paused, func(w *api.Account) {
				w.State = 3
				w.Open = slices.Delete(w.Open, 1, 2)
				w.Past.Unpaid++
				w.Credit += 20
			}},
			{"Card", account.Card, active || paused, func(w *api.Account) {
				w.Open[1].Phase, w.Open[1].Try, w.Open[1].Next = api.Charging, 2, 0
			}},
		} {
			for _, skip := range []bool{false, true} {
				a.Skip = skip
				want, wantErr := account.Copy(a), api.ErrState
				if c.ok && !(skip && c.name == "Skip") {
					c.want(&want)
					wantErr = api.OK
				}
				got, e := c.call(a)
				check(t, fmt.Sprint(c.name, " of state ", state), got, e, want, wantErr)
			}
		}
	}
}

// P13.2: Cancel lets all that waits be unpaid, and what went into it is credit again; Card tries all of it again.
func TestCancelAndCardOfMany(t *testing.T) {
	a := api.Account{
		State: api.Paused, Count: 3, Credit: -1000,
		Open: []api.Cycle{
			{No: 0, Phase: api.Waiting, Amount: 5, Used: 10, Try: 1, Next: 50},
			{No: 1, Phase: api.Charging, Amount: 6, Used: 200, Try: 1},
			{No: 2, Phase: api.Waiting, Amount: 7, Used: 3000, Try: 3, Next: 60},
		},
	}
	want := api.Account{State: api.Ended, Count: 3, Credit: 2010, Open: a.Open[1:2], Past: api.Sum{Unpaid: 2}}
	got, e := account.Cancel(a)
	check(t, "Cancel", got, e, want, api.OK)
	want = account.Copy(a)
	want.Open[0] = api.Cycle{No: 0, Phase: api.Charging, Amount: 5, Used: 10, Try: 2}
	want.Open[2] = api.Cycle{No: 2, Phase: api.Charging, Amount: 7, Used: 3000, Try: 4}
	got, e = account.Card(a)
	check(t, "Card", got, e, want, api.OK)
}

// P13.2: behind Cancel what is charged is given back, what is laid aside put back, and nothing begins.
func TestAfterCancel(t *testing.T) {
	p := daily(100)
	p.Goods = true
	a, _ := account.Day(account.Open(0, p, 1000), p, 1000)
	a, _ = account.Cancel(a)
	for _, kind := range []byte{api.Charge, api.Refund} {
		l := account.Asks(4, a)
		if len(l) != 1 || l[0].Kind != kind {
			t.Fatalf("%+v asks %v", a, l)
		}
		l[0].Verdict = api.Yes
		a, _ = account.Hear(4, a, l[0], 1001)
	}
	got, e := account.Day(a, p, 1100)
	check(t, "Day", got, e, api.Account{State: api.Ended, Anchor: 1000, Index: 1, Count: 1, Past: api.Sum{Refunded: 1}}, api.OK)
}

// P13.3: Change within a period, told by hand: periods of 30 days from 1000 on, price 3000, to another plan.
func TestChangeWithin(t *testing.T) {
	from := api.Plan{Price: 3000, Unit: api.Days, Every: 30, Trial: 5, Last: true}
	for _, c := range []struct {
		today, anchor int
		to            int64
		credit, want  int64
	}{
		{1000, 1030, 6000, 0, 3000 - 6000},
		{1015, 1030, 6000, 0, 1500 - 3000},
		{1029, 1030, 6000, 0, 100 - 200},
		{1030, 1060, 6000, 0, 3000 - 6000},
		{1050, 1060, 600, 70, 70 + 1000 - 200},
		{1050, 1060, 600, -5000, -5000 + 1000 - 200},
		{1050, 1060, 0, 0, 1000},
		{1050, 1060, 3000, 11, 11},
		{1053, 1060, 1000, 0, 700 - 233}, // 7 of 30 days of 1000 are 233, rounded down
		{1300, 1330, 30, 5, 5 + 3000 - 30},
	} {
		a := allPhases(api.Active)
		a.Anchor, a.Index, a.Credit, a.Skip = 1000, 2, c.credit, true
		to := api.Plan{Price: c.to, Unit: api.Years, Every: 2, Trial: 9, Goods: true}
		want := account.Copy(a)
		want.Plan, want.Anchor, want.Index, want.Credit = 5, c.anchor, 0, c.want
		got, e := account.Change(a, from, 5, to, c.today)
		check(t, fmt.Sprintf("Change %+v", c), got, e, want, api.OK)
	}
}

// P13.3: periods of months have as many days as they have, by the anchor.
func TestChangeOfMonths(t *testing.T) {
	from := api.Plan{Price: 2800, Unit: api.Months, Every: 1}
	to := api.Plan{Price: 31000, Unit: api.Weeks, Every: 1}
	for _, c := range []struct {
		today, next string
		credit      int64
	}{
		{"2023-01-31", "2023-02-28", 2800 - 31000},
		{"2023-02-21", "2023-02-28", 700 - 7750},
		{"2023-03-30", "2023-03-31", 90 - 1000},
		{"2024-02-29", "2024-03-31", 2800 - 31000},
	} {
		a := api.Account{State: api.Active, Anchor: day(t, "2023-01-31"), Index: 1}
		got, e := account.Change(a, from, 1, to, day(t, c.today))
		want := api.Account{State: api.Active, Plan: 1, Anchor: day(t, c.next), Credit: c.credit}
		check(t, "Change on "+c.today, got, e, want, api.OK)
	}
}

// P13.3: ahead of the first period, and of one of which none has begun, only the plan is another one; so it is of periods, or days, that there aren't.
func TestChangeWithoutPeriod(t *testing.T) {
	to := api.Plan{Price: api.MaxMoney + 1, Unit: api.Weeks, Every: 1}
	for _, c := range []struct {
		anchor, index, today int
		from                 api.Plan
	}{
		{1000, 0, 999, daily(3000)},
		{1000, 4, 999, daily(3000)},
		{1000, -4, 0, daily(3000)},
		{1000, 0, 1000, daily(3000)},
		{1000, 0, 1005, daily(3000)},
		{1000, 0, 1025, daily(api.MaxMoney + 1)},
		{api.MaxDay, 3, api.MaxDay - 1, daily(3000)},
		{-1, 3, 1005, daily(3000)},
		{api.MaxDay + 1, 3, 1005, daily(3000)},
		{1000, 3, -1, daily(3000)},
		{1000, 3, api.MaxDay + 1, daily(3000)},
		{1000, 3, math.MaxInt, daily(3000)},
		{1000, 3, 1005, api.Plan{Price: 5}},
		{1000, 3, 1005, api.Plan{Price: 5, Unit: 9, Every: 1}},
	} {
		for _, credit := range []int64{0, 5, -5, api.MaxMoney, math.MaxInt64, math.MinInt64} {
			a := allPhases(api.Active)
			a.Anchor, a.Index, a.Credit, a.Skip = c.anchor, c.index, credit, true
			want := account.Copy(a)
			want.Plan, want.Index = 5, 0
			got, e := account.Change(a, c.from, 5, to, c.today)
			check(t, fmt.Sprintf("Change %+v", c), got, e, want, api.OK)
		}
	}
}

// P13.3: ErrState: not Active, of the same plan, or with a next period behind the last day; also of one of which no period has begun; ahead of ErrMoney.
func TestChangeState(t *testing.T) {
	to := api.Plan{Price: -1, Unit: api.Weeks, Every: 1}
	for state := range 256 {
		if state == int(api.Active) {
			continue
		}
		a := allPhases(byte(state))
		got, e := account.Change(a, daily(3000), 5, to, 1075)
		check(t, fmt.Sprint("Change of state ", state), got, e, api.Account{}, api.ErrState)
	}
	for _, state := range []byte{api.Active, api.Paused} {
		a := allPhases(state)
		for _, today := range []int{0, 1075} {
			got, e := account.Change(a, daily(3000), a.Plan, to, today)
			check(t, "Change to the same plan", got, e, api.Account{}, api.ErrState)
		}
		a.Anchor = api.MaxDay
		for n := range 8 {
			if n != a.Plan && state == api.Active {
				continue
			}
			got, e := account.Change(a, daily(3000), n, to, api.MaxDay)
			check(t, "Change for several reasons", got, e, api.Account{}, api.ErrState)
		}
	}
	for _, index := range []int{0, 1, 8, -1, math.MinInt, math.MaxInt} {
		for _, c := range []struct {
			anchor, today int
			want          api.Errno
		}{
			{api.MaxDay, api.MaxDay, api.ErrState},
			{api.MaxDay - 9, api.MaxDay - 9, api.ErrState},
			{api.MaxDay - 9, api.MaxDay, api.ErrState},
			{api.MaxDay - 19, api.MaxDay - 9, api.ErrState},
			{api.MaxDay - 10, api.MaxDay, api.ErrState},
			{api.MaxDay - 10, api.MaxDay - 1, api.OK},
			{api.MaxDay - 19, api.MaxDay - 10, api.OK},
		} {
			a := api.Account{State: api.Active, Anchor: c.anchor, Index: index}
			got, e := account.Change(a, daily(0), 1, api.Plan{Every: 1}, c.today)
			want := api.Account{State: api.Active, Plan: 1, Anchor: c.anchor}
			if index != 0 {
				want.Anchor = c.anchor + (c.today-c.anchor)/10*10 + 10
			}
			check(t, fmt.Sprint("Change of ", c), got, e, want, c.want)
		}
	}
}

// P13.3: ErrMoney: plan.Change's, and purse's of the credit; at MaxMoney it works.
func TestChangeMoney(t *testing.T) {
	for _, c := range []struct {
		from, to, credit, want int64
		err                    api.Errno
	}{
		{100, 0, api.MaxMoney - 100, api.MaxMoney, api.OK},
		{101, 0, api.MaxMoney - 100, 0, api.ErrMoney},
		{100, 0, api.MaxMoney, 0, api.ErrMoney},
		{0, 100, 100 - api.MaxMoney, -api.MaxMoney, api.OK},
		{0, 101, 100 - api.MaxMoney, 0, api.ErrMoney},
		{0, 1, -api.MaxMoney, 0, api.ErrMoney},
		{50, 151, 100 - api.MaxMoney, 0, api.ErrMoney},
		{50, 150, 100 - api.MaxMoney, -api.MaxMoney, api.OK},
		{0, 0, api.MaxMoney, api.MaxMoney, api.OK},
		{0, 0, api.MaxMoney + 1, 0, api.ErrMoney},
		{0, 0, -api.MaxMoney - 1, 0, api.ErrMoney},
		{api.MaxMoney, 0, 0, api.MaxMoney, api.OK},
		{0, api.MaxMoney, 0, -api.MaxMoney, api.OK},
		{api.MaxMoney + 1, 0, -5, 0, api.ErrMoney},
		{0, api.MaxMoney + 1, 5, 0, api.ErrMoney},
		{-1, 0, 0, 0, api.ErrMoney},
		{0, -1, 0, 0, api.ErrMoney},
		{0, 0, math.MaxInt64, 0, api.ErrMoney},
		{0, 0, math.MinInt64, 0, api.ErrMoney},
	} {
		a := allPhases(api.Active)
		a.Anchor, a.Credit = 1000, c.credit
		want := account.Copy(a)
		want.Plan, want.Index, want.Anchor, want.Credit = 5, 0, 1080, c.want
		got, e := account.Change(a, daily(c.from), 5, daily(c.to), 1070)
		check(t, fmt.Sprintf("Change %+v", c), got, e, want, c.err)
	}
}

// P13.3: behind Change the other plan's periods begin with the next one, at its price without what was given back.
func TestAfterChange(t *testing.T) {
	from, to := daily(1000), api.Plan{Price: 300, Unit: api.Days, Every: 3}
	a, _ := account.Day(account.Open(0, from, 1000), from, 1000)
	a, _ = account.Change(a, from, 1, to, 1004)
	got, e := account.Day(a, to, 1013)
	want := api.Account{
		State: api.Active, Plan: 1, Anchor: 1010, Index: 2, Count: 3,
		Open: []api.Cycle{
			{No: 0, Due: 1000, Phase: api.Charging, Amount: 1000, Try: 1},
			{No: 2, Due: 1013, Phase: api.Charging, Amount: 180, Used: 120, Try: 1},
		},
		Past: api.Sum{Done: 1}, // the one of 1010, of a credit of 600 - 180
	}
	check(t, "Day", got, e, want, api.OK)
	// On one day twice: of the second one no period has begun.
	b, _ := account.Change(a, to, 2, daily(5), 1004)
	want = account.Copy(a)
	want.Plan = 2
	check(t, "Change", b, api.OK, want, api.OK)
}

// P13.3: Asks, of all states: in order; what waits, or is at its end, asks nothing.
func TestAsks(t *testing.T) {
	for state := range 256 {
		a := allPhases(byte(state))
		for phase := 7; phase < 20; phase++ {
			a.Open = slices.Insert(a.Open, phase%5, api.Cycle{No: 20 + phase, Phase: byte(phase), Amount: 5, Try: 1})
		}
		for _, sub := range []int{0, 9, 31} {
			want := []api.Notice{
				{Kind: api.Charge, Sub: sub, Cycle: 10, Try: 2, Amount: 500},
				{Kind: api.Allocate, Sub: sub, Cycle: 12},
				{Kind: api.Ship, Sub: sub, Cycle: 13},
				{Kind: api.Release, Sub: sub, Cycle: 14},
				{Kind: api.Refund, Sub: sub, Cycle: 15, Amount: 950},
			}
			if got := account.Asks(sub, a); !slices.Equal(got, want) {
				t.Errorf("Asks(%d, %+v) = %v; asked for is %v", sub, a, got, want)
			}
		}
	}
	a := allPhases(api.Active)
	slices.Reverse(a.Open)
	if l := account.Asks(0, a); len(l) != 5 || l[0].Cycle != 15 || l[4].Cycle != 10 {
		t.Errorf("%v", l)
	}
	if l := account.Asks(3, api.Account{State: api.Active, Count: 4}); len(l) != 0 {
		t.Errorf("%v", l)
	}
}

// P13.3: Name of all states, and of what is none.
func TestName(t *testing.T) {
	for i := range 256 {
		want := ""
		if i < 4 {
			want = []string{"nothing", "active", "paused", "ended"}[i]
		}
		if got := account.Name(byte(i)); got != want {
			t.Errorf("Name(%d) = %q; asked for is %q", i, got, want)
		}
	}
}

// P13.3: Copy: the same in all fields.
func TestCopy(t *testing.T) {
	for state := range 256 {
		for _, skip := range []bool{false, true} {
			a := allPhases(byte(state))
			a.Skip = skip
			if got := account.Copy(a); !same(got, a) {
				t.Errorf("Copy(%+v) = %+v", a, got)
			}
		}
	}
	if got := account.Copy(api.Account{}); !same(got, api.Account{}) {
		t.Errorf("%+v", got)
	}
}

// calls are all that make an account of one, of which each does something.
func calls(t *testing.T) map[string]func(api.Account) (api.Account, api.Errno) {
	t.Helper()
	m := map[string]func(api.Account) (api.Account, api.Errno){
		"Copy":      func(a api.Account) (api.Account, api.Errno) { return account.Copy(a), api.OK },
		"Day":       func(a api.Account) (api.Account, api.Errno) { return account.Day(a, daily(100), 1500) },
		"Day ahead": func(a api.Account) (api.Account, api.Errno) { return account.Day(a, daily(100), 0) },
		"Day ended": func(a api.Account) (api.Account, api.Errno) {
			a.State = api.Ended
			return account.Day(a, daily(100), 1500)
		},
		"Day refused": func(a api.Account) (api.Account, api.Errno) {
			a.Credit = math.MaxInt64
			return account.Day(a, daily(100), 1500)
		},
		"Pause": account.Pause, "Skip": account.Skip, "Cancel": account.Cancel, "Card": account.Card,
		"Resume": func(a api.Account) (api.Account, api.Errno) {
			a.State = api.Paused
			return account.Resume(a)
		},
		"Resume refused": account.Resume,
		"Change": func(a api.Account) (api.Account, api.Errno) {
			return account.Change(a, daily(100), 5, daily(200), 1075)
		},
		"Change ahead": func(a api.Account) (api.Account, api.Errno) {
			return account.Change(a, daily(100), 5, daily(200), 0)
		},
		"Change refused": func(a api.Account) (api.Account, api.Errno) {
			return account.Change(a, daily(100), 5, daily(-200), 1075)
		},
	}
	for i, c := range allPhases(api.Active).Open {
		for verdict := range byte(4) {
			n, _ := cycle.Asks(9, c)
			n.Cycle, n.Verdict = c.No, verdict
			m[fmt.Sprint("Hear ", i, " ", verdict)] = func(a api.Account) (api.Account, api.Errno) { return account.Hear(9, a, n, 1500) }
		}
	}
	return m
}

// P13.3: what is handed in stays as it was, the room behind its list, too; and it shares nothing with what is answered, nor that with what is made of it.
func TestSharesNothing(t *testing.T) {
	for name, call := range calls(t) {
		whole := append(allPhases(api.Active).Open, slices.Repeat([]api.Cycle{{No: 99, Due: 99}}, 60)...)
		before := slices.Clone(whole)
		a := allPhases(api.Active)
		a.Open = whole[:len(a.Open)]
		got, e := call(a)
		if !slices.Equal(whole, before) {
			t.Errorf("%s has written over its list", name)
		}
		again, f := call(a)
		if !same(got, again) || e != f {
			t.Errorf("%s: %+v, %d, and then %+v, %d", name, got, e, again, f)
		}
		told := account.Copy(again)
		all := got.Open[:cap(got.Open)]
		for i := range all {
			all[i] = api.Cycle{No: -7}
		}
		_ = append(got.Open, api.Cycle{No: -8})
		if !slices.Equal(whole, before) || !same(again, told) {
			t.Errorf("%s shares its list", name)
		}
		account.Asks(9, a)
		if !slices.Equal(whole, before) {
			t.Errorf("Asks has written over a list")
		}
	}
}

// P1, P2: at all numbers each call ends, and answers the same again.
func TestAny(t *testing.T) {
	ints := []int{math.MinInt, -1, 0, 5, api.MaxDay, math.MaxInt}
	amounts := []int64{math.MinInt64, -1, 0, 700, math.MaxInt64}
	for _, state := range []byte{0, 1, 2, 3, 4, 255} {
		for _, n := range ints {
			for _, m := range ints {
				for _, amount := range amounts {
					a := api.Account{State: state, Plan: n, Anchor: m, Index: n, Count: n, Credit: amount, Skip: n < 0, Past: api.Sum{Done: n, Unpaid: n, Refunded: n, Skipped: n, Paid: amount}}
					for phase := range byte(13) {
						a.Open = append(a.Open, api.Cycle{No: n, Due: m, Phase: phase, Amount: amount, Used: amount, Try: n, Next: m})
					}
					p := api.Plan{Price: amount, Unit: byte(n), Every: 700, Trial: n, Goods: m < 0, Last: n < 0}
					checkAny(t, a, p, n, m)
				}
			}
		}
	}
}

// checkAny calls all that an account can be handed to, twice.
func checkAny(t *testing.T, a api.Account, p api.Plan, n, m int) {
	t.Helper()
	before := account.Copy(a)
	q := p
	q.Price, q.Every = 5, 1
	for i, call := range []func() (api.Account, api.Errno){
		func() (api.Account, api.Errno) { return account.Open(n, p, m), api.OK },
		func() (api.Account, api.Errno) { return account.Copy(a), api.OK },
		func() (api.Account, api.Errno) { return account.Day(a, p, n) },
		func() (api.Account, api.Errno) { return account.Day(a, p, m) },
		func() (api.Account, api.Errno) { return account.Pause(a) },
		func() (api.Account, api.Errno) { return account.Resume(a) },
		func() (api.Account, api.Errno) { return account.Skip(a) },
		func() (api.Account, api.Errno) { return account.Cancel(a) },
		func() (api.Account, api.Errno) { return account.Card(a) },
		func() (api.Account, api.Errno) { return account.Change(a, p, m, q, n) },
		func() (api.Account, api.Errno) { return account.Change(a, q, n+1, p, m) },
		func() (api.Account, api.Errno) {
			return account.Hear(m, a, api.Notice{Kind: api.Charge, Sub: m, Cycle: n, Verdict: api.Yes}, m)
		},
	} {
		got, e := call()
		if again, f := call(); !same(got, again) || e != f || e != api.OK && !same(got, api.Account{}) {
			t.Errorf("call %d of %+v: %+v, %d, and then %+v, %d", i, a, got, e, again, f)
		}
	}
	if !slices.Equal(account.Asks(n, a), account.Asks(n, a)) || !same(a, before) {
		t.Errorf("%+v was %+v", a, before)
	}
}

// P1: a plan of a day from the first day to the last one: as many cycles as there are days.
func TestAllDays(t *testing.T) {
	p := api.Plan{Unit: api.Days, Every: 1}
	got, e := account.Day(account.Open(0, p, 0), p, math.MaxInt)
	want := api.Account{State: api.Active, Index: api.MaxDay + 1, Count: api.MaxDay + 1, Past: api.Sum{Done: api.MaxDay + 1}}
	check(t, "Day", got, e, want, api.OK)
	p.Last, p.Price = true, 7
	got, e = account.Day(account.Open(0, p, 0), p, api.MaxDay)
	want.Past = api.Sum{Skipped: api.MaxDay}
	want.Open = []api.Cycle{{No: api.MaxDay, Due: api.MaxDay, Phase: api.Charging, Amount: 7, Try: 1}}
	check(t, "Day", got, e, want, api.OK)
}
