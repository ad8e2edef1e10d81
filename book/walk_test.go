package book_test

import (
	"math/rand"
	"slices"
	"testing"

	"paybook/account"
	"paybook/api"
	"paybook/book"
	"paybook/cycle"
	"paybook/plan"
)

// A model is a book by its subscriptions that are there alone.
type model struct {
	today int
	plans plan.List
	subs  map[int]api.Account

	done map[byte]int // how many orders of a kind were OK
}

// book is it as the package tells it.
func (m *model) book() book.Book {
	b := book.Book{Today: m.today, Plans: m.plans}
	for sub, a := range m.subs {
		b.Subs[sub] = a
	}
	return b
}

// step is an order that is right; behind an error all stays.
func (m *model) step(o api.Order) api.Errno {
	e := api.OK
	a, there := m.subs[o.Sub]
	switch o.Kind {
	case api.Define:
		if len(m.plans) == api.MaxPlans {
			return api.ErrFull
		}
		m.plans = append(slices.Clone(m.plans), o.P)
	case api.Open:
		switch {
		case o.Plan >= len(m.plans):
			return api.ErrNone
		case there:
			return api.ErrThere
		case m.today+m.plans[o.Plan].Trial > api.MaxDay:
			return api.ErrLong
		}
		p := m.plans[o.Plan]
		m.subs[o.Sub], _ = account.Day(account.Open(o.Plan, p, m.today), p, m.today)
	case api.Pass:
		if m.today+o.N > api.MaxDay {
			return api.ErrLong
		}
		m.today += o.N
		for sub, a := range m.subs {
			m.subs[sub], _ = account.Day(a, m.plans[a.Plan], m.today)
		}
	case api.Hear:
		a, there := m.subs[o.A.Sub]
		if !there {
			return api.ErrOld
		}
		if a, e = account.Hear(o.A.Sub, a, o.A, m.today); e == api.OK {
			m.subs[o.A.Sub] = a
		}
	default:
		if !there || o.Kind == api.Change && o.Plan >= len(m.plans) {
			return api.ErrNone
		}
		if a, e = told(a, o, m.plans, m.today); e == api.OK {
			m.subs[o.Sub] = a
		}
	}
	if e == api.OK {
		m.done[o.Kind]++
	}
	return e
}

// anyOrder is one that is right: mostly of few subscriptions, and an answer to what is asked.
func anyOrder(r *rand.Rand, b book.Book) api.Order {
	sub := r.Intn(4)
	if r.Intn(10) == 0 {
		sub = r.Intn(api.MaxSubs)
	}
	switch k := r.Intn(40); {
	case k < 1:
		return define(api.Plan{Price: int64(r.Intn(3) * 500), Unit: byte(r.Intn(4)), Every: 1 + r.Intn(3), Trial: r.Intn(2) * r.Intn(20), Goods: r.Intn(2) == 0, Last: r.Intn(2) == 0})
	case k < 4:
		return open(sub, r.Intn(4))
	case k < 6:
		return change(sub, r.Intn(4))
	case k < 14:
		return pass(1 + r.Intn(1+r.Intn(20)))
	case k < 18:
		return of([]byte{api.Pause, api.Resume, api.Skip, api.Card}[r.Intn(4)], sub)
	case k < 19 && r.Intn(4) == 0:
		return of(api.Cancel, sub)
	}
	n := api.Notice{Kind: byte(1 + r.Intn(5)), Sub: sub, Cycle: r.Intn(3), Try: r.Intn(3), Amount: int64(r.Intn(3) * 500)}
	if l := b.Asks(); len(l) > 0 && r.Intn(20) > 0 {
		n = l[r.Intn(len(l))]
	}
	n.Verdict = []byte{api.Yes, api.Yes, api.Soft, api.No}[r.Intn(4)]
	return hear(n)
}

// checkBook: all that is said of books to which orders lead.
func checkBook(t *testing.T, b book.Book) {
	t.Helper()
	checkBack(t, b)
	var asked []api.Notice
	for sub, a := range b.Subs {
		if s := a.Past; a.Count != len(a.Open)+s.Done+s.Unpaid+s.Refunded+s.Skipped {
			t.Fatalf("%d: %+v", sub, a)
		}
		for _, c := range a.Open {
			if n, ok := cycle.Asks(sub, c); ok {
				asked = append(asked, n)
			}
		}
	}
	if got := b.Asks(); !slices.Equal(got, asked) {
		t.Fatalf("%v; asked for is %v", got, asked)
	}
}

// P14.1, P14.2: any orders, held one by one against the model; each book to which they lead comes back.
func TestWalks(t *testing.T) {
	r := rand.New(rand.NewSource(14))
	done := map[byte]int{}
	seen := map[api.Errno]int{}
	for i := range 300 {
		today := 730000 + r.Intn(2000)
		if i%10 == 0 {
			today = api.MaxDay - r.Intn(400)
		}
		m := &model{today: today, subs: map[int]api.Account{}, done: done}
		b := book.New(today)
		for range 200 {
			o := anyOrder(r, b)
			want := m.step(o)
			c, e := b.Step(o)
			seen[e]++
			if e != want {
				t.Fatalf("Step(%v) = %d; asked for is %d", o, e, want)
			}
			if e != api.OK {
				if !same(c, book.Book{}) {
					t.Fatalf("Step(%v) = %+v, %d", o, c, e)
				}
				continue
			}
			if !same(c, m.book()) {
				t.Fatalf("Step(%v) = %+v; asked for is %+v", o, c, m.book())
			}
			b = c
			checkBook(t, b)
		}
	}
	for kind := api.Define; kind <= api.Hear; kind++ {
		if done[kind] < 50 {
			t.Errorf("%d orders of kind %d", done[kind], kind)
		}
	}
	for _, e := range []api.Errno{api.ErrNone, api.ErrFull, api.ErrLong, api.ErrState, api.ErrOld, api.ErrThere} {
		if seen[e] < 20 {
			t.Errorf("%d errors %d", seen[e], e)
		}
	}
}

// P14.2: a book comes back from the last day, too, where a charge is put off beyond it.
func TestLastDay(t *testing.T) {
	b := stepped(t, book.New(api.MaxDay-4), define(weekly(700)), open(3, 0), hear(charge(3, 0, 1, api.Soft)), pass(1), hear(charge(3, 0, 2, api.Soft)), pass(3), hear(charge(3, 0, 3, api.Soft)))
	if c := b.Subs[3].Open[0]; b.Today != api.MaxDay || c.Next != api.MaxDay+7 {
		t.Fatalf("%+v", b)
	}
	checkBook(t, b)
	fails(t, b, pass(1), api.ErrLong)
}

// P14.1, P14.2: a period on each day there is: a book comes back behind all of them.
func TestAllDays(t *testing.T) {
	b := stepped(t, book.New(0), define(api.Plan{Price: 1, Every: 1}), open(31, 0), hear(api.Notice{Kind: api.Charge, Sub: 31, Try: 1, Amount: 1, Verdict: api.Yes}), of(api.Pause, 31))
	for b.Today < api.MaxDay {
		c, e := b.Step(pass(min(api.MaxPass, api.MaxDay-b.Today)))
		if e != api.OK {
			t.Fatalf("day %d: %d", b.Today, e)
		}
		b = c
	}
	want := api.Account{State: api.Paused, Index: api.MaxDay + 1, Count: api.MaxDay + 1, Past: api.Sum{Done: 1, Skipped: api.MaxDay, Paid: 1}}
	if !sameAccount(b.Subs[31], want) {
		t.Errorf("%+v", b.Subs[31])
	}
	checkBook(t, b)
}
