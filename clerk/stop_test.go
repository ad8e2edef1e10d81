package clerk_test

import (
	"bytes"
	"testing"

	"paybook/api"
	"paybook/book"
	"paybook/clerk"
	"paybook/notice"
	"paybook/plate"
)

// spares are so many bytes of a write at which a plate stops.
var spares = []int{0, 1, 5, 16, 20, 40, 63, 64}

// story is a plate with a clerk, and an order at which that is stopped.
type story struct {
	name  string
	clerk func(t *testing.T) (*plate.Plate, *clerk.Clerk, book.Book)
	do    api.Order
	anew  bool // it has no room but by a diary that begins anew
}

func stories() []story {
	long := define(api.Plan{Price: api.MaxPrice, Unit: api.Years, Every: 1000, Trial: 1000, Goods: true, Last: true})
	filled := func(left int) func(t *testing.T) (*plate.Plate, *clerk.Clerk, book.Book) {
		return func(t *testing.T) (*plate.Plate, *clerk.Clerk, book.Book) { return filler(t, left) }
	}
	return []story{
		{"a plan", subscribed, define(weekly(5)), false},
		{"a subscription", subscribed, open(4, 1), false},
		{"a day", subscribed, pass(1), false},
		{"an answer", subscribed, hear(charge(3, 0, 1, api.Yes)), false},
		{"the end", subscribed, of(api.Cancel, 31), false},
		{"to the last byte", filled(18), pass(1), false},
		{"a long one", filled(30), long, false},
		{"one byte too many", filled(17), pass(1), true},
		{"a long one, anew", filled(20), long, true},
		{"no room at all", filled(0), pass(60), true},
	}
}

// checkOff: a clerk whose plate has stopped is off, and stays so; what it tells is that.
func checkOff(t *testing.T, c *clerk.Clerk, ahead book.Book, age int) {
	t.Helper()
	for _, o := range []api.Order{pass(1), define(weekly(1)), {}, pass(61), open(31, 9), hear(charge(3, 0, 1, api.Yes))} {
		checkErr(t, "Do of one that is off", c.Do(o), api.ErrOff)
	}
	checkErr(t, "Hear of one that is off", c.Hear(notice.Encode(charge(3, 0, 1, api.Yes))), api.ErrOff)
	for _, b := range [][]byte{nil, []byte("junk"), notice.Encode(charge(3, 0, 1, api.Ask))} {
		checkErr(t, "Hear of one that is off", c.Hear(b), api.ErrForm)
	}
	if c.On() || len(c.Asks()) != 0 || c.Age() != age {
		t.Fatalf("On() = %v, Asks() = %v, Age() = %d; asked for is %d", c.On(), c.Asks(), c.Age(), age)
	}
	if b := c.Book(); !same(b, ahead) {
		t.Fatalf("Book() = %+v; asked for is %+v", b, ahead)
	}
}

// stopped does a story's order where the plate stops, and lets it Fall; and has the clerk that is opened then, and whether the order is kept. False: it didn't stop.
func (s story) stopped(t *testing.T, acts, spare, keep int) (kept, stops bool) {
	t.Helper()
	p, c, ahead := s.clerk(t)
	behind := stepped(t, ahead, s.do)
	p.Arm(acts, spare)
	e := c.Do(s.do)
	age, began := 2, 2
	if s.anew {
		began = 3
	}
	if p.On() {
		checkErr(t, "Do", e, api.OK)
		check(t, c, behind, began)
		p.Fall(0)
		check(t, opened(t, p, 5), behind, began)
		return true, false
	}
	checkErr(t, "Do", e, api.ErrStop)
	checkOff(t, c, ahead, age)
	p.Fall(keep)
	checkOff(t, c, ahead, age)
	c = opened(t, p, 5)
	if kept = same(c.Book(), behind); kept {
		check(t, c, behind, began)
	} else {
		check(t, c, ahead, age)
	}
	return kept, true
}

// P19.1, P19.2, P19.3: wherever a plate stops at a Do: ErrStop, the clerk is off; and the next one that is opened has all that was OK, and that order, or not.
func TestStops(t *testing.T) {
	for _, s := range stories() {
		t.Run(s.name, func(t *testing.T) {
			kept, lost := 0, 0
			for acts, stops := 0, true; stops; acts++ {
				for _, spare := range spares {
					for keep := range acts + 2 {
						var there bool
						there, stops = s.stopped(t, acts, spare, keep)
						switch {
						case !stops:
						case there:
							kept++
						default:
							lost++
						}
					}
				}
			}
			if kept == 0 || lost == 0 {
				t.Errorf("%d times the order is kept, %d times it isn't", kept, lost)
			}
		})
	}
}

// P19.1: a Hear at which the plate stops is a Do at which it does.
func TestHearStops(t *testing.T) {
	p, c, b := subscribed(t)
	p.Arm(0, 0)
	checkErr(t, "Hear", c.Hear(notice.Encode(charge(3, 0, 1, api.Yes))), api.ErrStop)
	checkOff(t, c, b, 2)
	p.Fall(0)
	check(t, opened(t, p, 0), b, 2)
}

// P19.1: what Step, or notice.Decode, refuses isn't done to a plate, and doesn't stop it; nor is the clerk off by it.
func TestRefusedDoesNotStop(t *testing.T) {
	p, c, b := subscribed(t)
	p.Arm(0, 64)
	for _, x := range refused() {
		checkErr(t, "Do", c.Do(x.o), x.want)
	}
	checkErr(t, "Hear", c.Hear([]byte("junk")), api.ErrForm)
	checkErr(t, "Hear", c.Hear(notice.Encode(charge(3, 1, 1, api.Yes))), api.ErrOld)
	check(t, c, b, 2)
	if !p.On() {
		t.Error("the plate has stopped")
	}
	p.Arm(-1, 0)
	done(t, c, pass(1))
	check(t, c, stepped(t, b, pass(1)), 2)
}

// P19.1: a Do without room by both doesn't stop a plate, either.
func TestNeitherDoesNotStop(t *testing.T) {
	p := plate.New(2)
	c := opened(t, p, 738915)
	p.Arm(0, 64)
	checkErr(t, "Do", c.Do(define(api.Plan{Price: api.MaxPrice, Every: 1000, Trial: 1000})), api.ErrFull)
	check(t, c, book.New(738915), 2)
	if !p.On() {
		t.Error("the plate has stopped")
	}
}

// P19.1: a Fall of a plate that hasn't stopped takes nothing of what was OK; and the clerk goes on.
func TestFallBetween(t *testing.T) {
	p, c, b := subscribed(t)
	for keep := range 30 {
		p.Fall(keep % 3)
		done(t, c, pass(7))
		b = stepped(t, b, pass(7))
		check(t, c, b, c.Age())
	}
	check(t, opened(t, p, 0), b, c.Age())
}

// P19.1: wherever the plate stops at the Open of a new one: ErrStop; it has the day of the one, or of the next one that is opened.
func TestOpenStops(t *testing.T) {
	junk := bytes.Repeat([]byte("junk"), 16)
	for _, dirty := range []bool{false, true} {
		first, second := 0, 0
		for acts, stops := 0, true; stops; acts++ {
			for _, spare := range spares {
				for keep := range acts + 2 {
					p := plate.New(6)
					for at := range 6 {
						if dirty {
							checkErr(t, "Write", p.Write(at, junk), api.OK)
						}
					}
					checkErr(t, "Flush", p.Flush(), api.OK)
					p.Arm(acts, spare)
					c, e := clerk.Open(p, 1000)
					if stops = !p.On(); !stops {
						checkErr(t, "Open", e, api.OK)
						check(t, c, book.New(1000), 2)
						continue
					}
					if c != nil || e != api.ErrStop {
						t.Fatalf("Open = %v, %d", c, e)
					}
					p.Fall(keep)
					c = opened(t, p, 2000)
					if c.Book().Today == 1000 {
						check(t, c, book.New(1000), 2)
						first++
					} else {
						check(t, c, book.New(2000), 2)
						second++
					}
				}
			}
		}
		if first == 0 || second == 0 {
			t.Errorf("%d times it has the first day, %d times the second", first, second)
		}
	}
}

// P19.1, P19.3: wherever the plate stops at an Open of one that is kept: ErrStop; and all is there at the next one.
func TestOpenKeptStops(t *testing.T) {
	for acts, stops := 0, true; stops; acts++ {
		for _, spare := range spares {
			for keep := range acts + 2 {
				p, c, b := subscribed(t)
				// What a stop leaves behind the last entry is made noughts at Open.
				p.Arm(1, 0)
				checkErr(t, "Do", c.Do(define(weekly(5))), api.ErrStop)
				p.Fall(9)
				behind := stepped(t, b, define(weekly(5)))
				p.Arm(acts, spare)
				c, e := clerk.Open(p, 5)
				if stops = !p.On(); stops {
					if c != nil || e != api.ErrStop {
						t.Fatalf("Open = %v, %d", c, e)
					}
					p.Fall(keep)
					c = opened(t, p, 5)
				}
				if same(c.Book(), behind) {
					b = behind
				}
				check(t, c, b, 2)
			}
		}
	}
}
