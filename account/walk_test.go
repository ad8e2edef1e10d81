package account_test

import (
	"math/rand"
	"testing"

	"paybook/account"
	"paybook/api"
	"paybook/cycle"
	"paybook/season"
)

// A ledger is a subscription that keeps all its cycles, and tells the credit by what all of them have of it.
type ledger struct {
	sub                 int
	state               byte
	plan, anchor, index int
	skip                bool
	exchanged           int64       // what changes have given back, without what they have taken
	cycles              []api.Cycle // by their numbers

	changes, answers int // that came to something
}

// credit is what changes have left, without what went into cycles that aren't unpaid, nor given back.
func (l *ledger) credit() int64 {
	n := l.exchanged
	for _, c := range l.cycles {
		if c.Phase != api.Unpaid && c.Phase != api.Refunded {
			n -= c.Used
		}
	}
	return n
}

// account is it as the package tells it.
func (l *ledger) account() api.Account {
	a := api.Account{State: l.state, Plan: l.plan, Anchor: l.anchor, Index: l.index, Count: len(l.cycles), Credit: l.credit(), Skip: l.skip}
	for _, c := range l.cycles {
		switch c.Phase {
		case api.Done:
			a.Past.Done++
			a.Past.Paid += c.Amount
		case api.Unpaid:
			a.Past.Unpaid++
		case api.Refunded:
			a.Past.Refunded++
		case api.Skipped:
			a.Past.Skipped++
		default:
			a.Open = append(a.Open, c)
		}
	}
	return a
}

// day: the periods that have begun are counted, and each but the last one is missed, if that alone counts.
func (l *ledger) day(p api.Plan, today int) {
	for i, c := range l.cycles {
		l.cycles[i] = cycle.Wake(c, today)
	}
	if l.state == api.Ended {
		return
	}
	count, _ := season.Count(l.anchor, p.Unit, p.Every, today)
	for ; l.index < count; l.index++ {
		due, _ := season.Nth(l.anchor, p.Unit, p.Every, l.index)
		missed := p.Last && l.index < count-1
		no, credit := len(l.cycles), l.credit()
		switch {
		case l.state == api.Paused, missed, l.skip:
			l.cycles = append(l.cycles, cycle.Pass(no, due))
			l.skip = l.skip && (missed || l.state == api.Paused)
		case credit > p.Price:
			l.cycles = append(l.cycles, cycle.Begin(no, due, 0, p.Price, p.Goods))
		default:
			l.cycles = append(l.cycles, cycle.Begin(no, due, p.Price-credit, credit, p.Goods))
		}
	}
}

// hear: the cycle of the number hears it, whether it is open or not: one that isn't asks nothing.
func (l *ledger) hear(n api.Notice, today int) api.Errno {
	if n.Cycle < 0 || n.Cycle >= len(l.cycles) {
		return api.ErrOld
	}
	c, e := cycle.Hear(l.sub, l.cycles[n.Cycle], n, today, l.state == api.Ended)
	if e == api.OK {
		l.cycles[n.Cycle] = c
		l.answers++
	}
	return e
}

// change: a period's days are looked for one by one.
func (l *ledger) change(from api.Plan, n int, to api.Plan, today int) api.Errno {
	if l.state != api.Active || n == l.plan {
		return api.ErrState
	}
	count := func(day int) int {
		k, _ := season.Count(l.anchor, from.Unit, from.Every, day)
		return k
	}
	if now := count(today); now > 0 && l.index > 0 {
		first, next := today, today
		for count(first-1) == now {
			first--
		}
		for count(next) == now {
			next++
		}
		left, days := int64(next-today), int64(next-first)
		l.exchanged += from.Price*left/days - to.Price*left/days
		l.anchor = next
		l.changes++
	}
	l.plan, l.index = n, 0
	return api.OK
}

// order is Pause, Resume, Skip, Cancel or Card, by its kind.
func (l *ledger) order(kind byte) api.Errno {
	switch {
	case kind == api.Pause && l.state == api.Active:
		l.state = api.Paused
	case kind == api.Resume && l.state == api.Paused:
		l.state = api.Active
	case l.state == api.Ended, kind == api.Pause, kind == api.Resume, kind == api.Skip && l.skip:
		return api.ErrState
	case kind == api.Skip:
		l.skip = true
	case kind == api.Cancel:
		l.state = api.Ended
		l.all(cycle.Over)
	case kind == api.Card:
		l.all(cycle.Card)
	}
	return api.OK
}

// all: something becomes of each cycle.
func (l *ledger) all(become func(api.Cycle) api.Cycle) {
	for i, c := range l.cycles {
		l.cycles[i] = become(c)
	}
}

// do is an order of a kind, by the package.
func do(a api.Account, kind byte) (api.Account, api.Errno) {
	switch kind {
	case api.Pause:
		return account.Pause(a)
	case api.Resume:
		return account.Resume(a)
	case api.Skip:
		return account.Skip(a)
	case api.Cancel:
		return account.Cancel(a)
	}
	return account.Card(a)
}

// letter is a notice: mostly an answer to what is asked, now and then another one.
func letter(r *rand.Rand, sub int, a api.Account) api.Notice {
	n := api.Notice{Kind: byte(1 + r.Intn(5)), Sub: sub, Cycle: r.Intn(a.Count + 1), Try: r.Intn(3), Amount: int64(r.Intn(3) * 500), Verdict: byte(r.Intn(4))}
	if asked := account.Asks(sub, a); len(asked) > 0 && r.Intn(10) > 0 {
		n = asked[r.Intn(len(asked))]
		n.Verdict = byte(r.Intn(4))
	}
	return n
}

// walk is a course of so many steps; each is held against the ledger.
func walk(t *testing.T, r *rand.Rand, plans []api.Plan, steps int) *ledger {
	t.Helper()
	sub, n, today := r.Intn(api.MaxSubs), r.Intn(len(plans)), 730000+r.Intn(2000)
	a := account.Open(n, plans[n], today)
	l := &ledger{state: api.Active, plan: n, anchor: today + plans[n].Trial, sub: sub}
	for i := range steps {
		var b api.Account
		var e, want api.Errno
		switch kind := r.Intn(20); {
		case kind < 6:
			today += r.Intn(4) * r.Intn(12)
			l.day(plans[l.plan], today)
			b, e = account.Day(a, plans[a.Plan], today)
		case kind < 14:
			n := letter(r, sub, a)
			want = l.hear(n, today)
			b, e = account.Hear(sub, a, n, today)
		case kind < 16:
			n, from := r.Intn(len(plans)), plans[l.plan]
			want = l.change(from, n, plans[n], today)
			b, e = account.Change(a, from, n, plans[n], today)
		default:
			order := []byte{api.Pause, api.Resume, api.Resume, api.Skip, api.Card}[r.Intn(5)]
			if r.Intn(40) == 0 {
				order = api.Cancel
			}
			want = l.order(order)
			b, e = do(a, order)
		}
		if want != api.OK {
			check(t, "a step", b, e, api.Account{}, want)
			continue
		}
		if told := l.account(); e != api.OK || !same(b, told) {
			t.Fatalf("step %d: %+v, %d; asked for is %+v", i, b, e, told)
		}
		a = b
	}
	return l
}

// P13.1 to P13.3: any course, held step by step against a subscription that keeps all cycles.
func TestWalks(t *testing.T) {
	plans := []api.Plan{
		{Price: 1000, Unit: api.Days, Every: 10},
		{Price: 999, Unit: api.Days, Every: 1, Trial: 3, Goods: true},
		{Price: 500, Unit: api.Weeks, Every: 1, Trial: 30, Last: true},
		{Price: 3100, Unit: api.Months, Every: 1, Goods: true, Last: true},
		{Price: 0, Unit: api.Days, Every: 5, Goods: true},
		{Price: 36500, Unit: api.Years, Every: 1},
		{Price: 1, Unit: api.Days, Every: 2, Last: true},
	}
	r := rand.New(rand.NewSource(13))
	var begun, changes, answers int
	for range 2000 {
		l := walk(t, r, plans, 120)
		begun += len(l.cycles)
		changes += l.changes
		answers += l.answers
	}
	if begun < 10000 || changes < 5000 || answers < 10000 {
		t.Errorf("%d cycles, %d changes, %d answers", begun, changes, answers)
	}
}
