package book

import (
	"math"

	"paybook/api"
	"paybook/pack"
	"paybook/plan"
)

// The bounds of what stands in a book to which orders have led.
const (
	maxCount = api.MaxDay + 1 // cycles of one subscription: one a day at most
	maxTry   = 100            // the last try that a notice may tell of
	maxNext  = api.MaxDay + 7 // a charge that is put off on the last day waits a week at most
)

// Encode: a book as bytes.
func (b Book) Encode() []byte {
	x := pack.New().Put(int64(b.Today), int64(len(b.Plans)))
	for _, p := range b.Plans {
		plan.Put(x, p)
	}
	for _, a := range b.Subs {
		putAccount(x, a)
	}
	return x.Done()
}

// Decode: and back. ErrForm: Encode makes these bytes of no book that may be.
func Decode(p []byte) (Book, api.Errno) {
	x := pack.Of(p)
	b := Book{Today: int(x.Get(0, api.MaxDay))}
	for range x.Get(0, api.MaxPlans) {
		b.Plans = append(b.Plans, plan.Get(x))
	}
	for sub := range b.Subs {
		b.Subs[sub] = getAccount(x, len(b.Plans))
	}
	if x.End() != api.OK {
		return Book{}, api.ErrForm
	}
	return b, api.OK
}

// putAccount puts a subscription into a box; of what isn't there that it isn't, alone.
func putAccount(x *pack.Box, a api.Account) {
	x.Put(int64(a.State))
	if a.State == api.Nothing {
		return
	}
	x.Put(int64(a.Plan), int64(a.Anchor), int64(a.Index), int64(a.Count), a.Credit).Flag(a.Skip)
	x.Put(int64(a.Past.Done), int64(a.Past.Unpaid), int64(a.Past.Refunded), int64(a.Past.Skipped), a.Past.Paid)
	x.Put(int64(len(a.Open)))
	for _, c := range a.Open {
		putCycle(x, c)
	}
}

// getAccount takes a subscription out of a box, of one of so many plans. (Behind a fault of the box it is none that may be.)
func getAccount(x *pack.Box, plans int) api.Account {
	a := api.Account{State: byte(x.Get(int64(api.Nothing), int64(api.Ended)))}
	if a.State == api.Nothing {
		return a
	}
	a.Plan = getInt(x, 0, plans-1)
	a.Anchor = getInt(x, 0, api.MaxDay)
	a.Index = getInt(x, 0, maxCount)
	a.Count = getInt(x, 0, maxCount)
	a.Credit = x.Get(math.MinInt64, math.MaxInt64)
	a.Skip = x.GetFlag()
	a.Past = getSum(x, a.Count)
	a.Open = getOpen(x, a.Count, a.Count-ended(a.Past))
	return a
}

// getSum takes out what has become of those of so many cycles that are at their end.
func getSum(x *pack.Box, count int) api.Sum {
	var s api.Sum
	s.Done = getInt(x, 0, count)
	s.Unpaid = getInt(x, 0, count-ended(s))
	s.Refunded = getInt(x, 0, count-ended(s))
	s.Skipped = getInt(x, 0, count-ended(s))
	s.Paid = x.Get(0, math.MaxInt64)
	return s
}

// ended is how many cycles are at their end.
func ended(s api.Sum) int {
	return s.Done + s.Unpaid + s.Refunded + s.Skipped
}

// getOpen takes out the open ones of so many cycles: those that are left of them, by rising numbers.
func getOpen(x *pack.Box, count, left int) []api.Cycle {
	var open []api.Cycle
	least := 0
	for range getInt(x, left, left) {
		c := getCycle(x, least, count-1)
		// What is told may be much more than what is there.
		if x.Fault() != api.OK {
			return nil
		}
		open = append(open, c)
		least = c.No + 1
	}
	return open
}

// putCycle puts a cycle into a box; getCycle takes one out that has a number from a least one up to a greatest one, and is open.
func putCycle(x *pack.Box, c api.Cycle) {
	x.Put(int64(c.No), int64(c.Due), int64(c.Phase), c.Amount, c.Used, int64(c.Try), int64(c.Next)).Flag(c.Goods)
}

func getCycle(x *pack.Box, least, most int) api.Cycle {
	return api.Cycle{
		No:     getInt(x, least, most),
		Due:    getInt(x, 0, api.MaxDay),
		Phase:  byte(x.Get(int64(api.Charging), int64(api.Refunding))),
		Amount: x.Get(0, api.MaxMoney),
		Used:   x.Get(-api.MaxMoney, api.MaxMoney),
		Try:    getInt(x, 0, maxTry),
		Next:   getInt(x, 0, maxNext),
		Goods:  x.GetFlag(),
	}
}

// getInt is Get of a number that stands as an int.
func getInt(x *pack.Box, least, most int) int {
	return int(x.Get(int64(least), int64(most)))
}
