package diary_test

import (
	"math/rand"
	"strings"
	"testing"

	"paybook/api"
	"paybook/diary"
	"paybook/plate"
)

// story is a plate that comes to a state, and what is done then: at which it stops.
type story struct {
	name   string
	plate  func(t *testing.T) *plate.Plate
	do     func(p *plate.Plate) api.Errno
	before state
	behind state
}

// tail is bytes that leave any sum as it is, wherever they stand instead of noughts (the sum's own polynomial).
const tail = "\x41\x06\x71\xdb\x01"

// added is a story of one more entry, and begun one of a new beginning.
func added(name string, s state, entry string) story {
	return done(name, s, s.with(entry), func(d *diary.Diary) api.Errno { return d.Add([]byte(entry)) })
}

func begun(name string, s state, first string) story {
	return done(name, s, s.anew(first), func(d *diary.Diary) api.Errno { return d.Start([]byte(first)) })
}

// done is a story of a diary that is opened, and told something.
func done(name string, before, behind state, tell func(d *diary.Diary) api.Errno) story {
	return story{name, diaryOf(before), func(p *plate.Plate) api.Errno {
		d, e := diary.Open(p)
		if e != api.OK {
			return e
		}
		return tell(d)
	}, before, behind}
}

// opened is a story of no more than an Open.
func opened(name string, low, high string, s state) story {
	return story{name, func(t *testing.T) *plate.Plate {
		return plateOf(t, 12, low, high)
	}, func(p *plate.Plate) api.Errno {
		_, e := diary.Open(p)
		return e
	}, s, s}
}

// diaryOf makes a plate with a state in one half (by its age), and an older one, which fills it, in the other.
func diaryOf(s state) func(t *testing.T) *plate.Plate {
	old := state{age: s.age - 1, first: "older", entries: []string{strings.Repeat("o", 100), strings.Repeat("p", 384-21-116-16)}}
	return func(t *testing.T) *plate.Plate {
		if s.age%2 == 0 {
			return plateOf(t, 12, old.row(), s.row())
		}
		return plateOf(t, 12, s.row(), old.row())
	}
}

func stories() []story {
	long := strings.Repeat("0123456789", 30)
	one := state{2, "first", []string{"one"}}
	l := []story{
		added("an entry", one, "entry"),
		added("no bytes", one, ""),
		added("noughts", one, strings.Repeat("\x00", 100)),
		added("an entry of many sectors", one, long),
		added("an entry up to the end", one, strings.Repeat("z", 384-21-19-16)),
		added("the first entry", state{age: 3, first: long[:200]}, long[:90]),
		added("an entry whose end is nothing to its sum", one, long[:95]+tail),
		begun("no bytes at first", one, ""),
		begun("a short first", one, "short"),
		begun("a first of one sector", state{age: 3}, long[:48]),
		begun("a first of one sector and a byte", one, long[:49]),
		begun("a long first", one, long),
		begun("a first of a whole half", one, long+long[:68]),
		begun("a first whose end is nothing to its sum", one, long[:95]+tail),
		begun("a byte of the age wraps", state{age: 255, first: "f"}, long[:100]),
		opened("none", "", "", state{age: 1}),
		opened("none, but bytes", strings.Repeat("x", 384), strings.Repeat("y", 384), state{age: 1}),
		opened("one", "", one.row(), one),
		opened("bytes behind it", strings.Repeat("x", 384), one.row()+strings.Repeat("y", 300), one),
		opened("part of an entry behind it", state{age: 1}.row(), one.row()+sealed(2, 2, long)[:300], one),
		opened("the next but one behind it", "", one.row()+sealed(2, 3, long), one),
	}
	// Seals whose heads lie across two sectors, at each of their bytes.
	for n := 32; n < 52; n++ {
		l = append(l, added("an entry across two sectors", state{age: 0x01020304, first: strings.Repeat("a", n)}, long[:10]))
	}
	return l
}

// stop does a story with the plate armed, and lets it Fall. False: it didn't stop; then all is there.
func (s story) stop(t *testing.T, acts, spare, keep int) (*plate.Plate, bool) {
	t.Helper()
	p := s.plate(t)
	p.Arm(acts, spare)
	e := s.do(p)
	if p.On() {
		checkErr(t, s.name, e, api.OK)
		p.Fall(0)
		check(t, open(t, p), 12, s.behind)
		return p, false
	}
	checkErr(t, s.name, e, api.ErrStop)
	p.Fall(keep)
	return p, true
}

// checkGoesOn: a plate's diary has one of two states; and goes on, with what comes kept.
func checkGoesOn(t *testing.T, p *plate.Plate, s story) {
	t.Helper()
	d := open(t, p)
	now := told(d)
	if !same(now, s.before) && !same(now, s.behind) {
		t.Fatalf("it has %v; asked for is %v, or %v", now, s.before, s.behind)
	}
	check(t, d, 12, now)
	if raw := raw(t, p, 6*(1-int(now.age)%2), 6); raw != filled(now.row(), 6) || p.Wet() != 0 {
		t.Fatalf("its half has %x, of which %d writes aren't safe; asked for is %x", raw, p.Wet(), now.row())
	}
	if d.Left() >= 18 {
		checkErr(t, "Add", d.Add([]byte("on")), api.OK)
		now = now.with("on")
		p.Fall(0)
		d = open(t, p)
		check(t, d, 12, now)
	}
	checkErr(t, "Start", d.Start([]byte("and on")), api.OK)
	p.Fall(0)
	check(t, open(t, p), 12, now.anew("and on"))
}

// P8.3: wherever it stops, in a write at any byte, and however many writes are kept: all is as it was, or with what was being done.
func TestStops(t *testing.T) {
	for _, s := range stories() {
		t.Run(s.name, func(t *testing.T) {
			for acts, stops := 0, true; stops; acts++ {
				for spare := range 65 {
					for keep := range acts + 2 {
						var p *plate.Plate
						p, stops = s.stop(t, acts, spare, keep)
						checkGoesOn(t, p, s)
						if t.Failed() {
							t.Fatalf("acts %d, spare %d, keep %d", acts, spare, keep)
						}
					}
				}
			}
		})
	}
}

// P8.3: and where Open stops again, and again.
func TestStopsAgain(t *testing.T) {
	spares := []int{0, 3, 7, 21, 40, 64}
	for _, s := range stories()[:24] {
		t.Run(s.name, func(t *testing.T) {
			for acts, stops := 0, true; stops; acts++ {
				for i := range len(spares) * 4 * 4 {
					spare, again := spares[i%len(spares)], i/len(spares)%4
					var p *plate.Plate
					p, stops = s.stop(t, acts, spare, acts)
					for twice := range 2 {
						p.Arm(again+twice, spares[(i+3)%len(spares)])
						diary.Open(p)
						p.Fall(i / len(spares) / 4)
					}
					checkGoesOn(t, p, s)
					if t.Failed() {
						t.Fatalf("acts %d, %d", acts, i)
					}
				}
			}
		})
	}
}

// P8.2: Start: the other half is noughts ahead of the seal's other sectors, and they are safe ahead of its first one.
func TestStartOrder(t *testing.T) {
	first := strings.Repeat("0123456789", 20)
	s := begun("", state{2, "first", []string{"one"}}, first)
	old := raw(t, s.plate(t), 0, 6)
	anew, nought := filled(s.behind.row(), 6), filled("", 6)
	for acts, stops := 0, true; stops; acts++ {
		for keep := range acts + 2 {
			var p *plate.Plate
			p, stops = s.stop(t, acts, 0, keep)
			now := raw(t, p, 0, 6)
			wiped, laid := false, false
			for at := 0; at < len(now); at += 64 {
				has := now[at : at+64]
				switch {
				case has == old[at:at+64]:
				case has == nought[at:at+64]:
				case has == anew[at:at+64]:
					wiped = true
					laid = laid || at == 0
				default:
					t.Fatalf("acts %d: sector %d has %x", acts, at/64, has)
				}
			}
			for at := 0; at < len(now); at += 64 {
				has := now[at : at+64]
				if laid && has != anew[at:at+64] || wiped && has != anew[at:at+64] && has != nought[at:at+64] {
					t.Fatalf("acts %d: sector %d has %x too early", acts, at/64, now)
				}
			}
		}
	}
}

// P8.2: Start: the others are safe ahead of the first sector, so that it alone isn't, where the last Flush stops.
func TestStartFlushes(t *testing.T) {
	for _, n := range []int{0, 20, 48, 49, 112, 113, 300, 368} {
		s := state{2, "first", []string{"one"}}
		p, q := diaryOf(s)(t), diaryOf(s)(t)
		d, c := open(t, p), open(t, q)
		first := []byte(strings.Repeat("f", n))
		acts := p.Acts()
		checkErr(t, "Start", d.Start(first), api.OK)
		q.Arm(p.Acts()-acts-1, 0)
		checkErr(t, "Start", c.Start(first), api.ErrStop)
		if q.Wet() != 1 {
			t.Errorf("%d bytes: %d writes aren't safe", n, q.Wet())
		}
		q.Fall(0)
		if raw(t, q, 0, 1) != filled("", 1) || raw(t, q, 1, 5) != raw(t, p, 1, 5) {
			t.Errorf("%d bytes: the half has %x", n, raw(t, q, 0, 6))
		}
	}
}

// P8.1, P8.2: what is noughts isn't made so again: nothing but a Flush.
func TestNothingToWipe(t *testing.T) {
	s := state{3, "first", []string{"one"}}
	p := plateOf(t, 12, s.row(), "")
	p.Arm(1, 0)
	d := open(t, p)
	p.Arm(3, 0)
	checkErr(t, "Start", d.Start(nil), api.OK)
	check(t, d, 12, s.anew(""))
}

// P8.3: what a stop has left of an entry isn't taken for one that comes behind a shorter one, though it looks so.
func TestNoGhost(t *testing.T) {
	s := state{2, "first", []string{"one"}}
	end := len(s.row())
	for short := range 150 {
		ghost := strings.Repeat("g", short) + strings.Repeat(sealed(2, 3, "ghost"), 4)
		w := added("", s, ghost)
		for acts, stops := 0, true; stops; acts++ {
			var p *plate.Plate
			p, stops = w.stop(t, acts, 64, 9)
			d := open(t, p)
			if now := told(d); !stops || same(now, w.behind) {
				continue
			}
			check(t, d, 12, s)
			checkErr(t, "Add", d.Add([]byte(strings.Repeat("s", short))), api.OK)
			check(t, open(t, p), 12, s.with(strings.Repeat("s", short)))
			if d.Left() != 384-end-16-short {
				t.Errorf("Left is %d", d.Left())
			}
		}
	}
}

// P8.2: beside ErrStop nothing that the diary tells has changed; nor does it write any more behind a Fall, as it can't know what is there: so nothing is lost that it answers by OK.
func TestStoppedDiary(t *testing.T) {
	long := strings.Repeat("long", 40)
	s := state{2, "first", []string{"one"}}
	for _, begins := range []bool{false, true} {
		for acts, stopped := 0, true; stopped; acts++ {
			for keep := range acts + 2 {
				p := diaryOf(s)(t)
				d := open(t, p)
				p.Arm(acts, 30)
				next, do := s.with(long), d.Add
				if begins {
					next, do = s.anew(long), d.Start
				}
				if stopped = do([]byte(long)) != api.OK; !stopped {
					break
				}
				check(t, d, 12, s)
				p.Fall(keep)
				checkErr(t, "Add", d.Add(nil), api.ErrStop)
				checkErr(t, "Start", d.Start(nil), api.ErrStop)
				checkErr(t, "Add", d.Add(make([]byte, 369)), api.ErrFull)
				checkErr(t, "Start", d.Start(make([]byte, 369)), api.ErrFull)
				check(t, d, 12, s)
				if now := told(open(t, p)); !same(now, s) && !same(now, next) {
					t.Errorf("acts %d, keep %d: it has %v", acts, keep, now)
				}
			}
		}
	}
}

// pair is two plates that are told the same, and their diaries.
type pair struct {
	p, q *plate.Plate
	d, c *diary.Diary
}

// reopen opens both; both answer the same.
func (w *pair) reopen(t *testing.T) api.Errno {
	t.Helper()
	var e, f api.Errno
	w.d, e = diary.Open(w.p)
	w.c, f = diary.Open(w.q)
	checkErr(t, "Open, of the other", f, e)
	if (w.d == nil) != (e != api.OK) {
		t.Errorf("Open: %v, %d", w.d, e)
	}
	return e
}

// do tells both of one more entry, or of a new beginning.
func (w *pair) do(t *testing.T, begins bool, b []byte) api.Errno {
	t.Helper()
	do, same := w.d.Add, w.c.Add
	if begins {
		do, same = w.d.Start, w.c.Start
	}
	e := do(b)
	checkErr(t, "of the other", same(b), e)
	return e
}

// wanted is what is to come of an entry, or of a new beginning, on a plate that doesn't stop.
func wanted(now state, room int, begins bool, b []byte) (state, api.Errno) {
	next := now.with(string(b))
	if begins {
		next = now.anew(string(b))
	}
	if len(next.row()) > room {
		return now, api.ErrFull
	}
	return next, api.OK
}

// P1, P2, P8.1 to P8.3: whatever comes, in whatever order, and wherever it stops: all that was OK is there, and no more than what was being done.
func TestAgainstStates(t *testing.T) {
	r := rand.New(rand.NewSource(21))
	for range 700 {
		sectors := 2 + r.Intn(16)
		w := &pair{p: plate.New(sectors), q: plate.New(sectors)}
		checkErr(t, "Open", w.reopen(t), api.OK)
		now, next := state{age: 1}, state{age: 1}
		for range 60 {
			if r.Intn(3) == 0 {
				acts, spare := r.Intn(9), r.Intn(66)
				w.p.Arm(acts, spare)
				w.q.Arm(acts, spare)
			}
			b := make([]byte, r.Intn(10+r.Intn(sectors*32)))
			r.Read(b)
			e := api.OK
			next = now
			if r.Intn(4) == 0 {
				e = w.reopen(t)
			} else {
				begins := r.Intn(5) == 0
				var want api.Errno
				next, want = wanted(now, sectors/2*64, begins, b)
				if e = w.do(t, begins, b); e != api.ErrStop {
					checkErr(t, "Add, or Start", e, want)
				}
			}
			if e == api.ErrStop {
				for e == api.ErrStop {
					keep := r.Intn(12)
					w.p.Fall(keep)
					w.q.Fall(keep)
					if r.Intn(2) == 0 {
						acts, spare := r.Intn(5), r.Intn(66)
						w.p.Arm(acts, spare)
						w.q.Arm(acts, spare)
					}
					e = w.reopen(t)
				}
				if got := told(w.d); !same(got, now) {
					now = next
				}
			} else {
				now = next
			}
			check(t, w.d, sectors, now)
			check(t, w.c, sectors, now)
			if !plate.Same(w.p, w.q) || w.p.Acts() != w.q.Acts() || w.p.Wet() != 0 || t.Failed() {
				t.Fatal("it parted")
			}
		}
	}
}
