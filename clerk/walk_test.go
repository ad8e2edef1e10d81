package clerk_test

import (
	"math/rand"
	"testing"

	"paybook/api"
	"paybook/book"
	"paybook/clerk"
	"paybook/diary"
	"paybook/notice"
	"paybook/order"
	"paybook/plate"
)

// model is a clerk by the book that it should have, and by how much of its half is used.
type model struct {
	book book.Book
	room int
	used int
	age  int
}

// step is an order, with the model behind it; behind an error all stays.
func (m model) step(o api.Order) (model, api.Errno) {
	b, e := m.book.Step(o)
	if e != api.OK {
		return m, e
	}
	m.book = b
	if size := 16 + len(order.Encode(o)); m.used+size <= m.room {
		m.used += size
		return m, api.OK
	}
	if m.used = 16 + len(b.Encode()); m.used > m.room {
		return model{}, api.ErrFull
	}
	m.age++
	return m, api.OK
}

// anyOrder is mostly one that is right, of few subscriptions, and often an answer to what is asked.
func anyOrder(r *rand.Rand, b book.Book) api.Order {
	sub := r.Intn(4)
	switch k := r.Intn(40); {
	case k < 2:
		return define(api.Plan{Price: int64(r.Intn(3) * 500), Unit: byte(r.Intn(4)), Every: 1 + r.Intn(3), Trial: r.Intn(2) * r.Intn(20), Goods: r.Intn(2) == 0, Last: r.Intn(2) == 0})
	case k < 6:
		return open(sub, r.Intn(3))
	case k < 8:
		return change(sub, r.Intn(3))
	case k < 16:
		return pass(1 + r.Intn(1+r.Intn(20)))
	case k < 21:
		return of([]byte{api.Pause, api.Resume, api.Skip, api.Card, api.Cancel}[r.Intn(5)], sub)
	case k < 22:
		return api.Order{Kind: byte(r.Intn(14)), Sub: r.Intn(40) - 4, Plan: r.Intn(10) - 1, N: r.Intn(2) * r.Intn(70)}
	}
	n := api.Notice{Kind: byte(1 + r.Intn(5)), Sub: sub, Cycle: r.Intn(3), Try: r.Intn(3), Amount: int64(r.Intn(3) * 500)}
	if l := b.Asks(); len(l) > 0 && r.Intn(20) > 0 {
		n = l[r.Intn(len(l))]
	}
	n.Verdict = []byte{api.Yes, api.Yes, api.Soft, api.No, api.Ask}[r.Intn(5)]
	return hear(n)
}

// walk is a plate that comes to many stops, its clerk, and another one beside it to which the same is done.
type walk struct {
	r        *rand.Rand
	p, q     *plate.Plate
	c, d     *clerk.Clerk
	now      model
	behind   model // what it is if the order at which it stopped is kept
	seen     map[api.Errno]int
	kept     int
	begun    int
	refused  int // how often neither the order nor the book had room
	reopened int
}

// arm lets both plates stop at some act, or at none.
func (w *walk) arm() {
	acts, spare := w.r.Intn(12)-1, w.r.Intn(66)
	w.p.Arm(acts, spare)
	w.q.Arm(acts, spare)
}

// fall lets both plates Fall, and opens them again and again, till they go on.
func (w *walk) fall(t *testing.T) {
	t.Helper()
	e := api.ErrStop
	for e == api.ErrStop {
		keep := w.r.Intn(10)
		w.p.Fall(keep)
		w.q.Fall(keep)
		if w.r.Intn(3) == 0 {
			w.arm()
		}
		var f api.Errno
		today := w.r.Intn(api.MaxDay + 1)
		w.c, e = clerk.Open(w.p, today)
		w.d, f = clerk.Open(w.q, today)
		if e != f || (w.c == nil) != (e != api.OK) || e != api.OK && e != api.ErrStop {
			t.Fatalf("Open = %v, %d; of the other %d", w.c, e, f)
		}
	}
	w.reopened++
	// Some orders leave the book as it is: that they are kept the diary alone tells.
	d, f := diary.Open(twin(t, w.p))
	checkErr(t, "diary.Open", f, api.OK)
	if d.Age() != w.now.age || w.now.room-d.Left() != w.now.used {
		w.now = w.behind
		w.kept++
	}
	if d.Age() != w.now.age || w.now.room-d.Left() != w.now.used {
		t.Fatalf("%d bytes are left by age %d; asked for is %d, %d", d.Left(), d.Age(), w.now.room-w.now.used, w.now.age)
	}
}

// told tells both clerks an order, an answer by its bytes or as it is; both answer the same.
func (w *walk) told(t *testing.T, o api.Order) api.Errno {
	t.Helper()
	var e, f api.Errno
	if o.Kind == api.Hear && w.r.Intn(2) == 0 && notice.Right(o.A) && o.A.Verdict != api.Ask {
		e, f = w.c.Hear(notice.Encode(o.A)), w.d.Hear(notice.Encode(o.A))
	} else {
		e, f = w.c.Do(o), w.d.Do(o)
	}
	if e != f {
		t.Fatalf("Do(%v) = %d; of the other %d", o, e, f)
	}
	return e
}

// step is one order, held against the model; where it stops, the clerk is off, and the next one is opened.
func (w *walk) step(t *testing.T, o api.Order) {
	t.Helper()
	next, want := w.now.step(o)
	e := w.told(t, o)
	w.seen[e]++
	switch {
	case e == api.ErrStop:
		checkOff(t, w.c, w.now.book, w.now.age)
		w.behind = next
		w.fall(t)
	case e != want:
		t.Fatalf("Do(%v) = %d; asked for is %d", o, e, want)
	case e == api.OK:
		if next.age > w.now.age {
			w.begun++
		}
		w.now = next
	case e == api.ErrFull && o.Kind != api.Define:
		w.refused++
	}
	check(t, w.c, w.now.book, w.now.age)
	check(t, w.d, w.now.book, w.now.age)
	if w.p.Wet() != 0 || w.p.Acts() != w.q.Acts() || !plate.Same(w.p, w.q) {
		t.Fatal("the plates aren't the same, or there are writes that aren't safe")
	}
}

// P1, P2, P3, P19.1 to P19.3: any orders, by plates of any size, wherever they stop: all that was OK is there behind any Fall, and no more than what was being done.
func TestWalks(t *testing.T) {
	r := rand.New(rand.NewSource(19))
	w := &walk{r: r, seen: map[api.Errno]int{}}
	for range 400 {
		size := 2 + r.Intn(4+r.Intn(40))
		today := 700000 + r.Intn(2000)
		if r.Intn(10) == 0 {
			today = api.MaxDay - r.Intn(300)
		}
		w.p, w.q = plate.New(size), plate.New(size)
		w.c, w.d = opened(t, w.p, today), opened(t, w.q, today)
		b := book.New(today)
		w.now = model{b, size / 2 * 64, 16 + len(b.Encode()), 2}
		w.behind = w.now
		for range 120 {
			if r.Intn(8) == 0 {
				w.arm()
			}
			if r.Intn(12) == 0 {
				w.behind = w.now
				w.fall(t)
			}
			w.step(t, anyOrder(r, w.now.book))
		}
	}
	for _, e := range []api.Errno{api.OK, api.ErrArg, api.ErrNone, api.ErrFull, api.ErrLong, api.ErrStop, api.ErrState, api.ErrOld, api.ErrThere} {
		if w.seen[e] < 50 {
			t.Errorf("%d times error %d", w.seen[e], e)
		}
	}
	if w.kept < 50 || w.begun < 100 || w.refused < 100 || w.reopened < 1000 {
		t.Errorf("%d times what was being done is kept, %d times it began anew, %d times there was no room, %d times it was opened", w.kept, w.begun, w.refused, w.reopened)
	}
}
