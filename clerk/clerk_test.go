package clerk_test

import (
	"bytes"
	"math"
	"slices"
	"testing"

	"paybook/api"
	"paybook/book"
	"paybook/clerk"
	"paybook/diary"
	"paybook/notice"
	"paybook/order"
	"paybook/plate"
)

// sameAccount: are two subscriptions the same? (A nil list and an empty one are.)
func sameAccount(a, b api.Account) bool {
	return a.State == b.State && a.Plan == b.Plan && a.Anchor == b.Anchor && a.Index == b.Index && a.Count == b.Count &&
		a.Credit == b.Credit && a.Skip == b.Skip && slices.Equal(a.Open, b.Open) && a.Past == b.Past
}

// same: are two books the same?
func same(a, b book.Book) bool {
	return a.Today == b.Today && slices.Equal(a.Plans, b.Plans) && slices.EqualFunc(a.Subs[:], b.Subs[:], sameAccount)
}

func define(p api.Plan) api.Order   { return api.Order{Kind: api.Define, P: p} }
func open(sub, n int) api.Order     { return api.Order{Kind: api.Open, Sub: sub, Plan: n} }
func change(sub, n int) api.Order   { return api.Order{Kind: api.Change, Sub: sub, Plan: n} }
func of(kind byte, s int) api.Order { return api.Order{Kind: kind, Sub: s} }
func pass(n int) api.Order          { return api.Order{Kind: api.Pass, N: n} }
func hear(n api.Notice) api.Order   { return api.Order{Kind: api.Hear, A: n} }
func weekly(price int64) api.Plan   { return api.Plan{Price: price, Unit: api.Weeks, Every: 1} }

// charge is a verdict to a charge of 7.00.
func charge(sub, no, try int, verdict byte) api.Notice {
	return api.Notice{Kind: api.Charge, Sub: sub, Cycle: no, Try: try, Amount: 700, Verdict: verdict}
}

func checkErr(t *testing.T, what string, e, want api.Errno) {
	t.Helper()
	if e != want {
		t.Errorf("%s: %d; asked for is %d", what, e, want)
	}
}

// opened is a plate's clerk, where nothing may go wrong.
func opened(t *testing.T, p *plate.Plate, today int) *clerk.Clerk {
	t.Helper()
	c, e := clerk.Open(p, today)
	if e != api.OK || c == nil {
		t.Fatalf("Open(%d) = %v, %d", today, c, e)
	}
	return c
}

// done tells a clerk orders that are all OK.
func done(t *testing.T, c *clerk.Clerk, orders ...api.Order) {
	t.Helper()
	for _, o := range orders {
		if e := c.Do(o); e != api.OK {
			t.Fatalf("Do(%v) = %d", o, e)
		}
	}
}

// stepped is a book behind orders that are all OK.
func stepped(t *testing.T, b book.Book, orders ...api.Order) book.Book {
	t.Helper()
	for _, o := range orders {
		var e api.Errno
		if b, e = b.Step(o); e != api.OK {
			t.Fatalf("Step(%v) = %d", o, e)
		}
	}
	return b
}

// check holds all that a clerk that is on tells against a book and an age.
func check(t *testing.T, c *clerk.Clerk, want book.Book, age int) {
	t.Helper()
	if b := c.Book(); !same(b, want) {
		t.Fatalf("Book() = %+v; asked for is %+v", b, want)
	}
	if l := c.Asks(); !slices.Equal(l, want.Asks()) {
		t.Fatalf("Asks() = %v; asked for is %v", l, want.Asks())
	}
	if !c.On() || c.Age() != age {
		t.Fatalf("On() = %v, Age() = %d; asked for is %d", c.On(), c.Age(), age)
	}
}

// checkDiary: a plate's diary has an age, some bytes at first, and entries.
func checkDiary(t *testing.T, p *plate.Plate, age int, first []byte, entries ...[]byte) {
	t.Helper()
	d, e := diary.Open(p)
	if e != api.OK {
		t.Fatalf("diary.Open: %d", e)
	}
	if d.Age() != age || !bytes.Equal(d.First(), first) || !slices.EqualFunc(d.Entries(), entries, bytes.Equal) {
		t.Fatalf("the diary has age %d, first %x, entries %x; asked for is %d, %x, %x", d.Age(), d.First(), d.Entries(), age, first, entries)
	}
}

// plateOf is one whose diary, of age 2, has this at first, and these entries.
func plateOf(t *testing.T, first []byte, entries ...[]byte) *plate.Plate {
	t.Helper()
	p := plate.New(40)
	d, e := diary.Open(p)
	checkErr(t, "diary.Open", e, api.OK)
	checkErr(t, "Start", d.Start(first), api.OK)
	for _, b := range entries {
		checkErr(t, "Add", d.Add(b), api.OK)
	}
	return p
}

// twin is a plate that has the same, as it is safe.
func twin(t *testing.T, p *plate.Plate) *plate.Plate {
	t.Helper()
	q := plate.New(p.Size())
	for at := range p.Size() {
		b, e := p.Read(at)
		checkErr(t, "Read", e, api.OK)
		checkErr(t, "Write", q.Write(at, b), api.OK)
	}
	checkErr(t, "Flush", q.Flush(), api.OK)
	return q
}

// three are orders that lead to three plans and, of the first one, of 7.00 a week, the subscriptions 3 and 31, and of the second one the subscription 5.
func three() []api.Order {
	goods := api.Plan{Price: 1400, Unit: api.Months, Every: 1, Trial: 3, Goods: true}
	return []api.Order{define(weekly(700)), define(goods), define(weekly(100)), open(3, 0), open(31, 0), open(5, 1)}
}

// subscribed is a plate with a clerk of day 1000 that was told these orders; and the book behind them.
func subscribed(t *testing.T) (*plate.Plate, *clerk.Clerk, book.Book) {
	t.Helper()
	p := plate.New(40)
	c := opened(t, p, 1000)
	done(t, c, three()...)
	return p, c, stepped(t, book.New(1000), three()...)
}

// P19.2: the example of the chapter.
func TestExample(t *testing.T) {
	p := plate.New(18)
	done(t, opened(t, p, 0), define(weekly(700)))
	p.Fall(0)
	if b := opened(t, p, 0).Book(); len(b.Plans) != 1 || b.Plans[0] != weekly(700) {
		t.Errorf("%+v", b)
	}
}

// P19.1: a day that is none: ErrArg, ahead of all that a plate has; and nothing is done to that.
func TestOpenWrongDay(t *testing.T) {
	stopped := plate.New(18)
	stopped.Arm(0, 0)
	stopped.Flush()
	full, _, _ := subscribed(t)
	before := twin(t, full)
	for _, today := range []int{-1, -2, api.MaxDay + 1, api.MaxDay + 2, math.MinInt, math.MaxInt, math.MinInt32, math.MaxInt32} {
		for _, p := range []*plate.Plate{nil, plate.New(0), plate.New(18), stopped, full} {
			acts := p.Acts()
			c, e := clerk.Open(p, today)
			if c != nil || e != api.ErrArg || p.Acts() != acts {
				t.Errorf("Open(%d) = %v, %d; %d acts", today, c, e, p.Acts()-acts)
			}
		}
	}
	if !plate.Same(full, before) {
		t.Error("the plate has changed")
	}
}

// P19.1: diary.Open's errors.
func TestOpenErrors(t *testing.T) {
	stopped := plate.New(18)
	stopped.Arm(0, 0)
	stopped.Flush()
	kept, _, _ := subscribed(t)
	kept.Arm(0, 0)
	kept.Flush()
	for _, x := range []struct {
		p    *plate.Plate
		want api.Errno
	}{
		{nil, api.ErrFull}, {plate.New(-5), api.ErrFull}, {plate.New(0), api.ErrFull}, {plate.New(1), api.ErrFull},
		{stopped, api.ErrStop}, {kept, api.ErrStop},
	} {
		for _, today := range []int{0, 1000, api.MaxDay} {
			if c, e := clerk.Open(x.p, today); c != nil || e != x.want {
				t.Errorf("Open(%d) = %v, %d; asked for is %d", today, c, e, x.want)
			}
		}
	}
}

// P19.1: of a plate without a diary: a New book of today, with which that is Started; whatever a plate's size from two sectors on, and whatever is on it.
func TestOpenNew(t *testing.T) {
	for _, today := range []int{0, 1, 31, 32, 1000, 738915, api.MaxDay - 1, api.MaxDay} {
		for size := 2; size < 9; size++ {
			p := plate.New(size)
			for at := range size {
				p.Write(at, bytes.Repeat([]byte{byte(today)}, 64))
			}
			check(t, opened(t, p, today), book.New(today), 2)
			checkDiary(t, p, 2, book.New(today).Encode())
			if p.Wet() != 0 {
				t.Errorf("%d writes aren't safe", p.Wet())
			}
			p.Fall(0)
			// The day is asked of a new clerk alone.
			check(t, opened(t, p, 5), book.New(today), 2)
			check(t, opened(t, p, api.MaxDay), book.New(today), 2)
		}
	}
}

// P19.1: a diary without anything at First is Started, of whatever age it is, and whatever came then.
func TestOpenNothingAtFirst(t *testing.T) {
	entry := order.Encode(define(weekly(700)))
	for _, entries := range [][][]byte{nil, {nil}, {entry}, {entry, order.Encode(open(1, 0))}, {[]byte("junk"), entry}} {
		for age := 2; age < 6; age++ {
			p := plateOf(t, []byte("old"), entries...)
			for at := 2; at <= age; at++ {
				d, e := diary.Open(p)
				checkErr(t, "diary.Open", e, api.OK)
				checkErr(t, "Start", d.Start(nil), api.OK)
				for _, b := range entries {
					checkErr(t, "Add", d.Add(b), api.OK)
				}
			}
			c := opened(t, p, 77)
			check(t, c, book.New(77), age+2)
			checkDiary(t, p, age+2, book.New(77).Encode())
		}
	}
}

// P19.1: a diary with something at First: that book, behind each entry's order.
func TestOpenKept(t *testing.T) {
	orders := append(three(), hear(charge(3, 0, 1, api.Yes)), pass(60), change(31, 2), hear(charge(3, 4, 1, api.Soft)), of(api.Skip, 3), of(api.Pause, 5), of(api.Cancel, 31))
	b := book.New(1000)
	for n := range len(orders) + 1 {
		if n > 0 {
			b = stepped(t, b, orders[n-1])
		}
		var entries [][]byte
		behind := b
		for _, o := range orders[n:] {
			entries = append(entries, order.Encode(o))
			behind = stepped(t, behind, o)
		}
		p := plateOf(t, b.Encode(), entries...)
		before := twin(t, p)
		check(t, opened(t, p, 5), behind, 2)
		if !plate.Same(p, before) {
			t.Fatal("the plate has changed")
		}
		checkDiary(t, p, 2, b.Encode(), entries...)
	}
}

// wrongEntries are bytes that are no order that a book of day 1000 with the orders of three Steps by.
func wrongEntries() [][]byte {
	long := order.Encode(pass(60))
	l := [][]byte{nil, {}, []byte("junk"), long[:1], append(bytes.Clone(long), 0), bytes.Repeat([]byte{0}, 70), notice.Encode(charge(3, 0, 1, api.Yes))}
	for _, o := range refused() {
		l = append(l, order.Encode(o.o))
	}
	return l
}

// refusal is an order, and the error that a book has of it.
type refusal struct {
	o    api.Order
	want api.Errno
}

// refused are orders that are right, but not to a book with the orders of three.
func refused() []refusal {
	return []refusal{
		{open(4, 3), api.ErrNone},
		{open(3, 1), api.ErrThere},
		{change(4, 1), api.ErrNone},
		{change(3, 7), api.ErrNone},
		{change(3, 0), api.ErrState},
		{of(api.Pause, 4), api.ErrNone},
		{of(api.Resume, 3), api.ErrState},
		{of(api.Skip, 0), api.ErrNone},
		{of(api.Cancel, 30), api.ErrNone},
		{of(api.Card, 1), api.ErrNone},
		{hear(charge(4, 0, 1, api.Yes)), api.ErrOld},
		{hear(charge(3, 1, 1, api.Yes)), api.ErrOld},
		{hear(charge(3, 0, 2, api.Yes)), api.ErrOld},
		{hear(api.Notice{Kind: api.Ship, Sub: 3, Verdict: api.Yes}), api.ErrOld},
	}
}

// P19.1: ErrForm: First is no book, or an entry no order, or none that its book Steps by; whatever comes behind that. The diary stays.
func TestOpenWrong(t *testing.T) {
	b := stepped(t, book.New(1000), three()...)
	good := order.Encode(pass(1))
	wrong := func(first []byte, entries ...[]byte) {
		t.Helper()
		p := plateOf(t, first, entries...)
		before := twin(t, p)
		if c, e := clerk.Open(p, 1000); c != nil || e != api.ErrForm {
			t.Errorf("of first %x, entries %x: Open = %v, %d", first, entries, c, e)
		}
		if !plate.Same(p, before) {
			t.Errorf("of first %x, entries %x: the plate has changed", first, entries)
		}
		checkDiary(t, p, 2, first, entries...)
	}
	row := b.Encode()
	for n := 1; n < len(row); n++ {
		wrong(row[:n])
	}
	for _, first := range [][]byte{{0}, []byte("junk"), append(bytes.Clone(row), 0), append([]byte{0}, row...), good} {
		wrong(first)
		wrong(first, good)
	}
	for _, entry := range wrongEntries() {
		wrong(row, entry)
		wrong(row, good, entry)
		wrong(row, entry, good)
		wrong(row, good, good, entry, good)
	}
	last := book.New(api.MaxDay - 5).Encode()
	wrong(last, order.Encode(pass(6)))
	wrong(last, order.Encode(pass(5)), good)
	plan := order.Encode(define(weekly(1)))
	wrong(last, slices.Repeat([][]byte{plan}, 9)...)
}

// P19.1: Do: the book Steps, and the order, Encoded, is one more entry; of each kind.
func TestDo(t *testing.T) {
	p, c, b := subscribed(t)
	var entries [][]byte
	for _, o := range three() {
		entries = append(entries, order.Encode(o))
	}
	for _, o := range []api.Order{
		hear(charge(3, 0, 1, api.Soft)), pass(1), hear(charge(3, 0, 2, api.Soft)), of(api.Card, 3), hear(charge(3, 0, 3, api.Yes)),
		pass(60), of(api.Pause, 5), of(api.Resume, 5), of(api.Skip, 3), change(3, 2), of(api.Cancel, 31), define(weekly(9)), open(0, 3), pass(1),
	} {
		done(t, c, o)
		b = stepped(t, b, o)
		entries = append(entries, order.Encode(o))
		check(t, c, b, 2)
		q := twin(t, p)
		checkDiary(t, q, 2, book.New(1000).Encode(), entries...)
		check(t, opened(t, q, 0), b, 2)
		if p.Wet() != 0 {
			t.Fatalf("%d writes aren't safe", p.Wet())
		}
	}
}

// P19.1, P7: book.Step's errors: nothing has changed, and nothing was done to the plate.
func TestDoWrong(t *testing.T) {
	p, c, b := subscribed(t)
	l := append(refused(),
		refusal{api.Order{}, api.ErrArg},
		refusal{api.Order{Kind: api.Hear + 1}, api.ErrArg},
		refusal{pass(0), api.ErrArg}, refusal{pass(61), api.ErrArg},
		refusal{open(-1, 0), api.ErrArg}, refusal{open(32, 0), api.ErrArg}, refusal{open(4, 8), api.ErrArg},
		refusal{api.Order{Kind: api.Pause, Sub: 3, N: 1}, api.ErrArg},
		refusal{hear(charge(3, 0, 1, api.Ask)), api.ErrArg}, refusal{hear(charge(3, -1, 1, api.Yes)), api.ErrArg},
		refusal{define(api.Plan{}), api.ErrArg},
		refusal{define(weekly(-1)), api.ErrMoney}, refusal{define(weekly(api.MaxPrice + 1)), api.ErrMoney},
	)
	before, acts := twin(t, p), p.Acts()
	for _, x := range l {
		checkErr(t, "Do", c.Do(x.o), x.want)
		check(t, c, b, 2)
		if p.Acts() != acts || p.Wet() != 0 || !plate.Same(p, before) {
			t.Fatalf("Do(%v): the plate has changed", x.o)
		}
	}
	for range 5 {
		done(t, c, define(weekly(1)))
		b = stepped(t, b, define(weekly(1)))
	}
	acts = p.Acts()
	checkErr(t, "Do of a ninth plan", c.Do(define(weekly(1))), api.ErrFull)
	if check(t, c, b, 2); p.Acts() != acts {
		t.Error("the plate has changed")
	}
}

// P19.1: ErrLong, likewise, near the last day.
func TestDoLong(t *testing.T) {
	p := plate.New(40)
	c := opened(t, p, api.MaxDay-5)
	orders := []api.Order{define(weekly(7)), define(api.Plan{Every: 1, Trial: 6}), open(1, 0)}
	done(t, c, orders...)
	b := stepped(t, book.New(api.MaxDay-5), orders...)
	acts := p.Acts()
	for _, o := range []api.Order{pass(6), pass(60), open(2, 1)} {
		checkErr(t, "Do", c.Do(o), api.ErrLong)
		check(t, c, b, 2)
	}
	if p.Acts() != acts {
		t.Error("the plate has changed")
	}
	done(t, c, pass(5))
	b = stepped(t, b, pass(5))
	check(t, c, b, 2)
	checkErr(t, "Do", c.Do(pass(1)), api.ErrLong)
	check(t, opened(t, p, 0), b, 2)
}

// P19.1: ErrMoney, likewise, of a day: by a subscription that owes as much as there can be.
func TestDoMoney(t *testing.T) {
	b := stepped(t, book.New(1000), define(weekly(700)), open(3, 0))
	b.Subs[3].Credit = -api.MaxMoney
	p := plateOf(t, b.Encode())
	c := opened(t, p, 0)
	acts := p.Acts()
	checkErr(t, "Do", c.Do(pass(7)), api.ErrMoney)
	if check(t, c, b, 2); p.Acts() != acts {
		t.Error("the plate has changed")
	}
	done(t, c, pass(6))
}

// filler is a clerk whose diary has room for so many bytes yet, seals and all; and the book.
func filler(t *testing.T, left int) (*plate.Plate, *clerk.Clerk, book.Book) {
	t.Helper()
	p := plate.New(24)
	c := opened(t, p, 1000)
	b := book.New(1000)
	todo := 12*64 - 16 - len(b.Encode()) - left
	// A Pass of few days takes 18 bytes, one of more than 31 days 19.
	for todo > 0 {
		o := pass(1)
		if todo%18 != 0 {
			o = pass(60)
		}
		done(t, c, o)
		b = stepped(t, b, o)
		todo -= 16 + len(order.Encode(o))
	}
	if todo < 0 {
		t.Fatalf("it is filled by %d too many", -todo)
	}
	return p, c, b
}

// P19.1: an order that has room, to the last byte, is Added; of one that hasn't, by one byte or by many, the diary is Started with the book behind it.
func TestNoRoom(t *testing.T) {
	for _, o := range []api.Order{pass(1), pass(60), define(api.Plan{Price: api.MaxPrice, Unit: api.Years, Every: 1000, Trial: 1000, Goods: true, Last: true})} {
		size := 16 + len(order.Encode(o))
		for left := range size + 3 {
			p, c, b := filler(t, left)
			check(t, c, b, 2)
			done(t, c, o)
			b = stepped(t, b, o)
			if left >= size {
				check(t, c, b, 2)
				check(t, opened(t, p, 0), b, 2)
				continue
			}
			check(t, c, b, 3)
			checkDiary(t, p, 3, b.Encode())
			c = opened(t, p, 0)
			check(t, c, b, 3)
			done(t, c, pass(2))
			b = stepped(t, b, pass(2))
			check(t, c, b, 3)
			p.Fall(0)
			check(t, opened(t, p, 0), b, 3)
		}
	}
}

// P19.1: ErrFull: neither the order nor the book behind it has room; nothing has changed; and it goes on with what has room.
func TestNeither(t *testing.T) {
	long := define(api.Plan{Price: api.MaxPrice, Unit: api.Years, Every: 1000, Trial: 1000, Goods: true, Last: true})
	for _, size := range []int{2, 3} {
		p := plate.New(size)
		c := opened(t, p, 738915)
		b := book.New(738915)
		age := 2
		for range 5 {
			before, acts := twin(t, p), p.Acts()
			for range 3 {
				checkErr(t, "Do", c.Do(long), api.ErrFull)
				check(t, c, b, age)
			}
			if p.Acts() != acts || !plate.Same(p, before) {
				t.Error("the plate has changed")
			}
			done(t, c, pass(60))
			b = stepped(t, b, pass(60))
			age++
			check(t, c, b, age)
		}
		check(t, opened(t, p, 0), b, age)
	}
}

// plans are ones that take from 7 to 13 bytes.
func plans() []api.Plan {
	var l []api.Plan
	for price := int64(1); price <= api.MaxPrice; price *= 2 {
		for _, n := range []int{1, 40, 1000} {
			l = append(l, api.Plan{Price: price, Every: n, Trial: n})
		}
	}
	return l
}

// P19.1: so it is to the byte: of books that take a whole half with their seals, and one byte more.
func TestNeitherToTheByte(t *testing.T) {
	seen := map[int]int{}
	for _, today := range []int{0, 1000, 40000, 738915} {
		for _, m := range plans() {
			p := plate.New(2)
			c := opened(t, p, today)
			b := stepped(t, book.New(today), define(m))
			size := 16 + len(b.Encode())
			seen[size]++
			if size <= 64 {
				done(t, c, define(m))
				check(t, c, b, 3)
				check(t, opened(t, p, 9), b, 3)
			} else {
				checkErr(t, "Do", c.Do(define(m)), api.ErrFull)
				check(t, c, book.New(today), 2)
				check(t, opened(t, p, 9), book.New(today), 2)
			}
		}
	}
	if seen[64] == 0 || seen[65] == 0 {
		t.Errorf("the books' sizes are %v", seen)
	}
}

// P19.1: Hear: an answer as bytes is a Hear, of each verdict.
func TestHear(t *testing.T) {
	for _, verdict := range []byte{api.Yes, api.Soft, api.No} {
		p, c, b := subscribed(t)
		n := charge(3, 0, 1, verdict)
		checkErr(t, "Hear", c.Hear(notice.Encode(n)), api.OK)
		b = stepped(t, b, hear(n))
		check(t, c, b, 2)
		checkErr(t, "Hear, twice", c.Hear(notice.Encode(n)), api.ErrOld)
		checkErr(t, "Hear of another", c.Hear(notice.Encode(charge(4, 0, 1, verdict))), api.ErrOld)
		check(t, c, b, 2)
		check(t, opened(t, p, 0), b, 2)
		entries := [][]byte{}
		for _, o := range append(three(), hear(n)) {
			entries = append(entries, order.Encode(o))
		}
		checkDiary(t, p, 2, book.New(1000).Encode(), entries...)
	}
}

// P19.1: a clerk hears all answers to what it asks, to the end of each cycle.
func TestHearAll(t *testing.T) {
	p, c, b := subscribed(t)
	done(t, c, pass(5))
	b = stepped(t, b, pass(5))
	for range 10 {
		for _, n := range c.Asks() {
			a := notice.Answer(n, api.Yes)
			checkErr(t, "Hear", c.Hear(notice.Encode(a)), api.OK)
			b = stepped(t, b, hear(a))
		}
	}
	check(t, c, b, 2)
	check(t, opened(t, p, 0), b, 2)
	if s := b.Subs[5].Past; len(b.Asks()) != 0 || s.Done != 1 || s.Paid != 1400 {
		t.Errorf("%+v", b.Subs[5])
	}
}

// P19.1, P7: ErrForm: what comes is no notice, or one that asks; by whatever byte. Nothing has changed.
func TestHearWrong(t *testing.T) {
	p, c, b := subscribed(t)
	before, acts := twin(t, p), p.Acts()
	row := notice.Encode(charge(3, 0, 1, api.Yes))
	l := [][]byte{nil, {}, []byte("junk"), append(bytes.Clone(row), 0), append([]byte{0}, row...), order.Encode(hear(charge(3, 0, 1, api.Yes))), slices.Repeat(row, 2), make([]byte, 1000)}
	for _, n := range b.Asks() {
		l = append(l, notice.Encode(n))
	}
	for n := range row {
		l = append(l, row[:n], row[n+1:])
		for turned := range 255 {
			other := bytes.Clone(row)
			other[n] ^= byte(turned + 1)
			l = append(l, other)
		}
	}
	for _, bad := range l {
		has := bytes.Clone(bad)
		if e := c.Hear(bad); e != api.ErrForm {
			t.Fatalf("Hear(%x) = %d", bad, e)
		}
		if !bytes.Equal(bad, has) {
			t.Fatalf("%x was handed in; it is %x", has, bad)
		}
	}
	check(t, c, b, 2)
	if p.Acts() != acts || !plate.Same(p, before) {
		t.Error("the plate has changed")
	}
	checkErr(t, "Hear", c.Hear(row), api.OK)
}

// P19.1: what was heard may be written over; it isn't written over by the clerk.
func TestHeardBytes(t *testing.T) {
	p, c, b := subscribed(t)
	n := charge(3, 0, 1, api.Yes)
	row := append(notice.Encode(n), "more"...)
	has := bytes.Clone(row)
	checkErr(t, "Hear", c.Hear(row[:len(row)-4]), api.OK)
	if !bytes.Equal(row, has) {
		t.Errorf("%x was handed in; it is %x", has, row)
	}
	clear(row)
	b = stepped(t, b, hear(n))
	check(t, c, b, 2)
	check(t, opened(t, p, 0), b, 2)
}

// Rule of memory: what is answered may be appended to, and shares nothing with what is answered, or kept, elsewhere.
func TestTold(t *testing.T) {
	p, c, b := subscribed(t)
	for range 20 {
		one, two := c.Book(), c.Book()
		asks, again := c.Asks(), c.Asks()
		for i, k := range []*book.Book{&one, &two} {
			k.Plans = append(k.Plans, weekly(int64(100+i)))
			for sub := range k.Subs {
				k.Subs[sub].Open = append(k.Subs[sub].Open, api.Cycle{No: 100 + i})
			}
		}
		asks, again = append(asks, api.Notice{Kind: 100}), append(again, api.Notice{Kind: 101})
		for i, k := range []book.Book{one, two} {
			last := len(k.Plans) - 1
			if k.Plans[last] != weekly(int64(100+i)) || !slices.Equal(k.Plans[:last], b.Plans) {
				t.Fatalf("%+v", k.Plans)
			}
			for sub, a := range k.Subs {
				last := len(a.Open) - 1
				if a.Open[last].No != 100+i || !slices.Equal(a.Open[:last], b.Subs[sub].Open) {
					t.Fatalf("%+v", a)
				}
				clear(a.Open)
			}
			clear(k.Plans)
		}
		if asks[len(asks)-1].Kind != 100 || again[len(again)-1].Kind != 101 {
			t.Fatalf("%v, %v", asks, again)
		}
		clear(asks)
		check(t, c, b, c.Age())
		was := c.Book()
		done(t, c, pass(7))
		if !same(was, b) {
			t.Fatalf("what was told is %+v; it was %+v", was, b)
		}
		b = stepped(t, b, pass(7))
		check(t, c, b, c.Age())
	}
	check(t, opened(t, p, 0), b, c.Age())
}

// An answer is new memory: what is written over in it is nothing of the clerk's.
func TestToldIsNew(t *testing.T) {
	p, c, b := subscribed(t)
	told, asks := c.Book(), c.Asks()
	clear(told.Plans)
	for sub := range told.Subs {
		clear(told.Subs[sub].Open)
	}
	clear(asks)
	check(t, c, b, 2)
	done(t, c, pass(7))
	b = stepped(t, b, pass(7))
	check(t, c, b, 2)
	check(t, opened(t, p, 0), b, 2)
}

// P19.2: of a nil Clerk: ErrNone, nothing, false, 0.
func TestNil(t *testing.T) {
	var c *clerk.Clerk
	for _, o := range []api.Order{{}, pass(1), pass(0), define(weekly(1)), open(0, 0), hear(charge(3, 0, 1, api.Yes))} {
		checkErr(t, "Do", c.Do(o), api.ErrNone)
	}
	for _, b := range [][]byte{nil, []byte("junk"), notice.Encode(charge(3, 0, 1, api.Yes)), notice.Encode(charge(3, 0, 1, api.Ask))} {
		checkErr(t, "Hear", c.Hear(b), api.ErrNone)
	}
	if len(c.Asks()) != 0 || !same(c.Book(), book.Book{}) || c.On() || c.Age() != 0 {
		t.Errorf("%v, %+v, %v, %d", c.Asks(), c.Book(), c.On(), c.Age())
	}
}

// P1: nothing panics of a clerk that Open didn't make, either.
func TestZero(t *testing.T) {
	var c clerk.Clerk
	c.Do(pass(1))
	c.Do(api.Order{})
	c.Hear(notice.Encode(charge(3, 0, 1, api.Yes)))
	c.Hear(nil)
	c.Asks()
	c.Book()
	c.On()
	c.Age()
}

// P1: whatever an order has, Do ends, and is what Step is.
func TestWildOrders(t *testing.T) {
	_, c, b := subscribed(t)
	wild := []int{math.MinInt, -1, 0, 1, 3, 7, 8, 31, 32, 60, 61, api.MaxDay, math.MaxInt}
	for kind := range 256 {
		for _, i := range wild {
			for _, j := range wild {
				for _, o := range []api.Order{
					{Kind: byte(kind), Sub: i, Plan: j},
					{Kind: byte(kind), N: i, Sub: j},
					{Kind: byte(kind), A: api.Notice{Kind: byte(j), Sub: i, Cycle: j, Try: i, Amount: int64(j), Verdict: byte(i)}},
				} {
					k, want := b.Step(o)
					if e := c.Do(o); e != want && (want != api.OK || e != api.ErrFull) {
						t.Fatalf("Do(%v) = %d; asked for is %d", o, e, want)
					} else if e == api.OK {
						b = k
					}
				}
			}
		}
	}
	check(t, c, b, c.Age())
}

// P19.1: of a long diary all orders are there.
func TestLongDiary(t *testing.T) {
	p := plate.New(2000)
	c := opened(t, p, 0)
	b := book.New(0)
	for n := range 3000 {
		o := pass(1 + n%60)
		done(t, c, o)
		b = stepped(t, b, o)
	}
	check(t, c, b, 2)
	p.Fall(0)
	check(t, opened(t, p, 0), b, 2)
}

// P2: two clerks of two plates have nothing of one another's.
func TestTwo(t *testing.T) {
	p, c, b := subscribed(t)
	q := plate.New(18)
	d := opened(t, q, 5)
	check(t, d, book.New(5), 2)
	done(t, d, define(weekly(3)), open(31, 0))
	check(t, c, b, 2)
	q.Arm(0, 0)
	checkErr(t, "Do", d.Do(pass(1)), api.ErrStop)
	check(t, c, b, 2)
	done(t, c, pass(1))
	check(t, opened(t, p, 0), stepped(t, b, pass(1)), 2)
}
