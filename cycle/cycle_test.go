package cycle_test

import (
	"math"
	"strings"
	"testing"

	"paybook/api"
	"paybook/cycle"
)

// names are the phases', by their numbers.
var names = []string{"", "charging", "waiting", "allocating", "shipping", "releasing", "refunding", "done", "unpaid", "refunded", "skipped"}

// phase is one's number, by its name.
func phase(t *testing.T, name string) byte {
	t.Helper()
	for i, n := range names {
		if n == name && i > 0 {
			return byte(i)
		}
	}
	t.Fatalf("there is no phase %q", name)
	return 0
}

// verdict is one's number, by its name.
func verdict(t *testing.T, name string) byte {
	t.Helper()
	switch name {
	case "yes":
		return 1
	case "soft":
		return 2
	case "no":
		return 3
	}
	t.Fatalf("there is no verdict %q", name)
	return 0
}

// of is a cycle of a phase that has something in each field, as far as its phase lets it.
func of(phase byte) api.Cycle {
	c := api.Cycle{No: 4, Due: 700000, Phase: phase, Amount: 500, Used: 30, Try: 2, Goods: true}
	if phase == api.Waiting {
		c.Next = 700010
	}
	return c
}

// others are cycles of all phases, those that there are, and those that aren't, told to f.
func others(f func(api.Cycle)) {
	for phase := range 256 {
		for _, goods := range []bool{false, true} {
			for _, amount := range []int64{0, 500, api.MaxMoney} {
				c := of(byte(phase))
				c.Goods, c.Amount = goods, amount
				f(c)
			}
		}
	}
}

// P12.2: Tries.
func TestTries(t *testing.T) {
	if got := cycle.Tries(); got != 4 {
		t.Errorf("Tries() = %d", got)
	}
}

// P12.1: Begin, told by hand: Charging with Try 1; of amount 0 with Try 0, Allocating or Done.
func TestBegin(t *testing.T) {
	for _, c := range []struct {
		no, due      int
		amount, used int64
		goods        bool
		want         api.Cycle
	}{
		{0, 5, 100, 0, true, api.Cycle{Due: 5, Phase: api.Charging, Amount: 100, Try: 1, Goods: true}},
		{3, 10, 500, 20, false, api.Cycle{No: 3, Due: 10, Phase: api.Charging, Amount: 500, Used: 20, Try: 1}},
		{3, 10, 1, -20, true, api.Cycle{No: 3, Due: 10, Phase: api.Charging, Amount: 1, Used: -20, Try: 1, Goods: true}},
		{7, 8, 0, 999, true, api.Cycle{No: 7, Due: 8, Phase: api.Allocating, Used: 999, Goods: true}},
		{7, 8, 0, 999, false, api.Cycle{No: 7, Due: 8, Phase: api.Done, Used: 999}},
		{0, 0, 0, 0, true, api.Cycle{Phase: api.Allocating, Goods: true}},
		{0, 0, 0, 0, false, api.Cycle{Phase: api.Done}},
		{api.MaxDay, api.MaxDay, api.MaxMoney, api.MaxPrice, true, api.Cycle{No: api.MaxDay, Due: api.MaxDay, Phase: api.Charging, Amount: api.MaxMoney, Used: api.MaxPrice, Try: 1, Goods: true}},
	} {
		if got := cycle.Begin(c.no, c.due, c.amount, c.used, c.goods); got != c.want {
			t.Errorf("Begin(%d, %d, %d, %d, %t) = %v; asked for is %v", c.no, c.due, c.amount, c.used, c.goods, got, c.want)
		}
	}
}

// P12.1: Pass: Skipped, of its number and day, and nothing else.
func TestPass(t *testing.T) {
	for _, no := range []int{0, 1, 77, api.MaxDay} {
		for _, due := range []int{0, 1, 5, api.MaxDay} {
			want := api.Cycle{No: no, Due: due, Phase: api.Skipped}
			if got := cycle.Pass(no, due); got != want {
				t.Errorf("Pass(%d, %d) = %v; asked for is %v", no, due, got, want)
			}
		}
	}
}

// P12.1: Ended hangs on the phase alone.
func TestEnded(t *testing.T) {
	others(func(c api.Cycle) {
		if got := cycle.Ended(c); got != (c.Phase >= 7) {
			t.Errorf("Ended(%v) = %t", c, got)
		}
	})
	for i, name := range names {
		want := name == "done" || name == "unpaid" || name == "refunded" || name == "skipped"
		if got := cycle.Ended(api.Cycle{Phase: byte(i)}); got != want {
			t.Errorf("Ended of one that is %s = %t", name, got)
		}
	}
}

// P12.3: Name of all phases, and of what is none.
func TestName(t *testing.T) {
	for i := range 256 {
		want := ""
		if i < len(names) {
			want = names[i]
		}
		if got := cycle.Name(byte(i)); got != want {
			t.Errorf("Name(%d) = %q; asked for is %q", i, got, want)
		}
	}
	for p, want := range map[byte]string{
		api.Charging: "charging", api.Waiting: "waiting", api.Allocating: "allocating", api.Shipping: "shipping", api.Releasing: "releasing",
		api.Refunding: "refunding", api.Done: "done", api.Unpaid: "unpaid", api.Refunded: "refunded", api.Skipped: "skipped",
	} {
		if got := cycle.Name(p); got != want {
			t.Errorf("Name(%d) = %q; asked for is %q", p, got, want)
		}
	}
}

// wantAsked is what is to come of Asks.
func wantAsked(sub int, c api.Cycle) (api.Notice, bool) {
	switch c.Phase {
	case 1:
		return api.Notice{Kind: 1, Sub: sub, Cycle: c.No, Try: c.Try, Amount: c.Amount}, true
	case 3:
		return api.Notice{Kind: 3, Sub: sub, Cycle: c.No}, true
	case 4:
		return api.Notice{Kind: 5, Sub: sub, Cycle: c.No}, true
	case 5:
		return api.Notice{Kind: 4, Sub: sub, Cycle: c.No}, true
	case 6:
		return api.Notice{Kind: 2, Sub: sub, Cycle: c.No, Amount: c.Amount}, true
	}
	return api.Notice{}, false
}

// P12.1: Asks, told by hand.
func TestAsksByHand(t *testing.T) {
	for _, c := range []struct {
		phase byte
		want  api.Notice
	}{
		{api.Charging, api.Notice{Kind: api.Charge, Sub: 9, Cycle: 4, Try: 2, Amount: 500}},
		{api.Allocating, api.Notice{Kind: api.Allocate, Sub: 9, Cycle: 4}},
		{api.Shipping, api.Notice{Kind: api.Ship, Sub: 9, Cycle: 4}},
		{api.Releasing, api.Notice{Kind: api.Release, Sub: 9, Cycle: 4}},
		{api.Refunding, api.Notice{Kind: api.Refund, Sub: 9, Cycle: 4, Amount: 500}},
	} {
		if got, ok := cycle.Asks(9, of(c.phase)); got != c.want || !ok {
			t.Errorf("Asks(9, %v) = %v, %t; asked for is %v", of(c.phase), got, ok, c.want)
		}
	}
}

// P12.1: Asks of all phases; of those that ask nothing no notice.
func TestAsksOfAll(t *testing.T) {
	others(func(c api.Cycle) {
		for _, sub := range []int{0, 1, 31} {
			want, wantOK := wantAsked(sub, c)
			if got, ok := cycle.Asks(sub, c); got != want || ok != wantOK {
				t.Errorf("Asks(%d, %v) = %v, %t; asked for is %v, %t", sub, c, got, ok, want, wantOK)
			}
		}
	})
}

// The courses: of one that is there and not over, of one that is over; the verdict; to which phase, if an amount was paid, and if not.
const courses = `
charging   there yes  allocating allocating
charging   over  yes  refunding  refunded
charging   there no   unpaid     unpaid
charging   over  no   unpaid     unpaid
charging   over  soft unpaid     unpaid
allocating there yes  shipping   shipping
allocating over  yes  releasing  releasing
allocating there soft refunding  refunded
allocating over  soft refunding  refunded
allocating there no   refunding  refunded
allocating over  no   refunding  refunded
shipping   there yes  done       done
shipping   over  yes  done       done
shipping   there soft releasing  releasing
shipping   over  soft releasing  releasing
shipping   there no   releasing  releasing
shipping   over  no   releasing  releasing
releasing  there yes  refunding  refunded
releasing  over  yes  refunding  refunded
releasing  there soft refunding  refunded
releasing  over  soft refunding  refunded
releasing  there no   refunding  refunded
releasing  over  no   refunding  refunded
refunding  there yes  refunded   refunded
refunding  over  yes  refunded   refunded
refunding  there soft refunded   refunded
refunding  over  soft refunded   refunded
refunding  there no   refunded   refunded
refunding  over  no   refunded   refunded
`

// checkHear: the answer of a verdict to what a cycle asks leads to another one.
func checkHear(t *testing.T, c api.Cycle, v byte, today int, over bool, want api.Cycle) {
	t.Helper()
	for _, sub := range []int{0, 9, 31} {
		a, ok := wantAsked(sub, c)
		if !ok {
			t.Fatalf("%v asks nothing", c)
		}
		a.Verdict = v
		if got, e := cycle.Hear(sub, c, a, today, over); got != want || e != api.OK {
			t.Errorf("Hear(%d, %v, %v, %d, %t) = %v, %d; asked for is %v", sub, c, a, today, over, got, e, want)
		}
	}
}

// P12.2: each phase, verdict and state leads to a phase, whatever else the cycle has; nothing else of it becomes another one.
func TestHearCourses(t *testing.T) {
	for _, line := range strings.Split(strings.TrimSpace(courses), "\n") {
		f := strings.Fields(line)
		from, v, over := phase(t, f[0]), verdict(t, f[2]), f[1] == "over"
		for i, amount := range []int64{1, 500, api.MaxMoney, 0} {
			to := phase(t, f[3+i/3])
			for try := 1; try <= 4; try++ {
				for _, today := range []int{0, 700001, api.MaxDay} {
					for _, used := range []int64{-7, 0, 30} {
						c := of(from)
						c.Amount, c.Try, c.Used = amount, try, used
						want := c
						want.Phase = to
						checkHear(t, c, v, today, over, want)
					}
				}
			}
		}
	}
}

// P12.2: a charge of what isn't sent is Done behind a Yes; without goods the others lead to the same.
func TestHearWithoutGoods(t *testing.T) {
	for _, c := range []struct {
		v    byte
		over bool
		want byte
	}{
		{api.Yes, false, api.Done},
		{api.Yes, true, api.Refunding},
		{api.No, false, api.Unpaid},
		{api.No, true, api.Unpaid},
		{api.Soft, true, api.Unpaid},
	} {
		for try := 1; try <= 4; try++ {
			x := api.Cycle{No: 4, Due: 10, Phase: api.Charging, Amount: 500, Used: 30, Try: try}
			want := x
			want.Phase = c.want
			checkHear(t, x, c.v, 12, c.over, want)
		}
	}
}

// P12.2: a Soft one: Waiting, 1, 3, 7 days by Try; behind the last try Unpaid.
func TestHearSoft(t *testing.T) {
	for _, goods := range []bool{false, true} {
		for _, today := range []int{0, 10, 700001, api.MaxDay - 7, api.MaxDay} {
			for try, days := range map[int]int{1: 1, 2: 3, 3: 7} {
				c := api.Cycle{No: 4, Due: 10, Phase: api.Charging, Amount: 500, Used: 30, Try: try, Goods: goods}
				want := c
				want.Phase, want.Next = api.Waiting, today+days
				checkHear(t, c, api.Soft, today, false, want)
			}
			c := api.Cycle{No: 4, Due: 10, Phase: api.Charging, Amount: 500, Used: 30, Try: 4, Goods: goods}
			want := c
			want.Phase = api.Unpaid
			checkHear(t, c, api.Soft, today, false, want)
		}
	}
}

// P12.2: an answer has any verdict but Ask: those that there aren't are neither Yes nor Soft.
func TestHearOtherVerdicts(t *testing.T) {
	for _, p := range []byte{api.Charging, api.Allocating, api.Shipping, api.Releasing, api.Refunding} {
		for _, over := range []bool{false, true} {
			for v := 4; v < 256; v++ {
				want := of(p)
				want.Phase = map[byte]byte{1: 8, 3: 6, 4: 5, 5: 6, 6: 9}[p]
				checkHear(t, of(p), byte(v), 700001, over, want)
			}
		}
	}
}

// checkOld: to a notice a cycle answers ErrOld, and stays as it was.
func checkOld(t *testing.T, sub int, c api.Cycle, a api.Notice) {
	t.Helper()
	for _, over := range []bool{false, true} {
		if got, e := cycle.Hear(sub, c, a, 700010, over); got != c || e != api.ErrOld {
			t.Errorf("Hear(%d, %v, %v, %t) = %v, %d; asked for is ErrOld", sub, c, a, over, got, e)
		}
	}
}

// P12.2: what is another one than what is asked, in whichever field, is no answer.
func TestHearOld(t *testing.T) {
	others(func(c api.Cycle) {
		asked, ok := wantAsked(9, c)
		if !ok {
			return
		}
		checkOld(t, 9, c, asked)
		for v := byte(1); v <= 3; v++ {
			a := asked
			a.Verdict = v
			for _, other := range []func(*api.Notice){
				func(n *api.Notice) { n.Kind = 0 },
				func(n *api.Notice) { n.Kind = n.Kind%5 + 1 },
				func(n *api.Notice) { n.Kind += 128 },
				func(n *api.Notice) { n.Sub++ },
				func(n *api.Notice) { n.Sub-- },
				func(n *api.Notice) { n.Sub = 0 },
				func(n *api.Notice) { n.Sub += 1 << 32 },
				func(n *api.Notice) { n.Cycle++ },
				func(n *api.Notice) { n.Cycle-- },
				func(n *api.Notice) { n.Cycle = 0 },
				func(n *api.Notice) { n.Cycle += 1 << 32 },
				func(n *api.Notice) { n.Try++ },
				func(n *api.Notice) { n.Try-- },
				func(n *api.Notice) { n.Try += 256 },
				func(n *api.Notice) { n.Amount++ },
				func(n *api.Notice) { n.Amount-- },
				func(n *api.Notice) { n.Amount += 1 << 32 },
			} {
				x := a
				other(&x)
				checkOld(t, 9, c, x)
			}
			checkOld(t, 8, c, a)
		}
	})
}

// P12.2: a letter of an earlier try, or of what was asked in another phase, is none.
func TestHearOldLetters(t *testing.T) {
	c := of(api.Charging)
	first := api.Notice{Kind: api.Charge, Sub: 9, Cycle: 4, Try: 1, Amount: 500, Verdict: api.Yes}
	checkOld(t, 9, c, first)
	others(func(c api.Cycle) {
		others(func(x api.Cycle) {
			a, ok := wantAsked(9, x)
			asked, _ := wantAsked(9, c)
			if !ok || a == asked {
				return
			}
			a.Verdict = api.Yes
			if got, e := cycle.Hear(9, c, a, 700010, false); got != c || e != api.ErrOld {
				t.Errorf("Hear(9, %v, %v) = %v, %d; asked for is ErrOld", c, a, got, e)
			}
		})
	})
	// What is asked without an amount, or a try, isn't answered with one.
	for _, p := range []byte{api.Allocating, api.Shipping, api.Releasing} {
		a, _ := wantAsked(9, of(p))
		a.Verdict, a.Amount = api.Yes, 500
		checkOld(t, 9, of(p), a)
		a.Try, a.Amount = 2, 0
		checkOld(t, 9, of(p), a)
	}
	a, _ := wantAsked(9, of(api.Refunding))
	a.Verdict, a.Try = api.Yes, 2
	checkOld(t, 9, of(api.Refunding), a)
}

// P12.2: what asks nothing hears nothing.
func TestHearOfNone(t *testing.T) {
	others(func(c api.Cycle) {
		if _, ok := wantAsked(9, c); ok {
			return
		}
		for kind := range byte(7) {
			for v := range byte(4) {
				checkOld(t, 9, c, api.Notice{Kind: kind, Sub: 9, Cycle: c.No, Try: c.Try, Amount: c.Amount, Verdict: v})
				checkOld(t, 9, c, api.Notice{Kind: kind, Sub: 9, Cycle: c.No, Verdict: v})
				checkOld(t, 0, c, api.Notice{Kind: kind, Verdict: v})
			}
		}
	})
}

// P12.3: Card: of one that is Waiting a Try more, at once; others stay.
func TestCard(t *testing.T) {
	others(func(c api.Cycle) {
		for try := 1; try <= 4; try++ {
			c.Try = try
			want := c
			if c.Phase == 2 {
				want.Phase, want.Next, want.Try = 1, 0, try+1
			}
			if got := cycle.Card(c); got != want {
				t.Errorf("Card(%v) = %v; asked for is %v", c, got, want)
			}
		}
	})
}

// P12.3: Wake: the same, if it is time; others stay.
func TestWake(t *testing.T) {
	others(func(c api.Cycle) {
		for _, next := range []int{0, 1, 10, 700010, api.MaxDay, api.MaxDay + 7} {
			c.Next = next
			for _, today := range []int{0, 1, 2, 9, 10, 11, 700009, 700010, 700011, api.MaxDay - 1, api.MaxDay} {
				want := c
				if c.Phase == 2 && today >= next {
					want.Phase, want.Next, want.Try = 1, 0, 3
				}
				if got := cycle.Wake(c, today); got != want {
					t.Errorf("Wake(%v, %d) = %v; asked for is %v", c, today, got, want)
				}
			}
		}
	})
}

// P12.3: Over: one that is Waiting isn't paid; others stay.
func TestOver(t *testing.T) {
	others(func(c api.Cycle) {
		want := c
		if c.Phase == 2 {
			want.Phase, want.Next = 8, 0
		}
		if got := cycle.Over(c); got != want {
			t.Errorf("Over(%v) = %v; asked for is %v", c, got, want)
		}
	})
}

// say is a cycle behind the answer of a verdict.
func say(t *testing.T, c api.Cycle, v byte, today int, over bool) api.Cycle {
	t.Helper()
	n, ok := cycle.Asks(3, c)
	if !ok {
		t.Fatalf("%v asks nothing", c)
	}
	n.Verdict = v
	c, e := cycle.Hear(3, c, n, today, over)
	if e != api.OK {
		t.Fatalf("%v: %d", c, e)
	}
	return c
}

// The example of the chapter.
func TestExample(t *testing.T) {
	c := cycle.Begin(0, 5, 100, 0, true)
	for range 3 {
		c = say(t, c, api.Yes, 5, false)
	}
	want := api.Cycle{Due: 5, Phase: api.Done, Amount: 100, Try: 1, Goods: true}
	if c != want {
		t.Errorf("%v; asked for is %v", c, want)
	}
}

// P12.2, P12.3: a charge that is put off again and again is tried four times, the last time eleven days behind the first one.
func TestPutOff(t *testing.T) {
	c := cycle.Begin(0, 100, 500, 0, true)
	var days []int
	for today := 100; !cycle.Ended(c) && today < 200; today++ {
		c = cycle.Wake(c, today)
		if c.Phase == api.Charging {
			days = append(days, today)
			c = say(t, c, api.Soft, today, false)
		}
	}
	want := api.Cycle{Due: 100, Phase: api.Unpaid, Amount: 500, Try: 4, Goods: true}
	if len(days) != 4 || days[0] != 100 || days[1] != 101 || days[2] != 104 || days[3] != 111 || c != want {
		t.Errorf("%v: %v; asked for is %v", days, c, want)
	}
}

// P12.3: with other cards it is tried four times on one day.
func TestPutOffWithCards(t *testing.T) {
	c := cycle.Begin(0, 100, 500, 0, false)
	for try := 1; try <= 4; try++ {
		if n, _ := cycle.Asks(3, c); n.Try != try {
			t.Errorf("%v at try %d", n, try)
		}
		c = cycle.Card(say(t, c, api.Soft, 100, false))
	}
	if want := (api.Cycle{Due: 100, Phase: api.Unpaid, Amount: 500, Try: 4}); c != want {
		t.Errorf("%v; asked for is %v", c, want)
	}
}

// P12.1 to P12.3: of whatever answers, each cycle is at its end behind at most seven of them: four tries, and what is laid aside, sent or put back, and given back; and one that is over is Done only if it was sent.
func TestAllCoursesEnd(t *testing.T) {
	ends := map[byte]int{}
	var walk func(c api.Cycle, heard int)
	walk = func(c api.Cycle, heard int) {
		if cycle.Ended(c) {
			ends[c.Phase]++
			return
		}
		if heard > 7 {
			t.Fatalf("%v", c)
		}
		if c.Phase == api.Waiting {
			walk(cycle.Card(c), heard)
			walk(cycle.Wake(c, c.Next), heard)
			walk(cycle.Over(c), heard)
			return
		}
		for v := api.Yes; v <= api.No; v++ {
			for _, over := range []bool{false, true} {
				x := say(t, c, v, 100, over)
				if x.No != c.No || x.Due != c.Due || x.Amount != c.Amount || x.Used != c.Used || x.Goods != c.Goods {
					t.Fatalf("%v became %v", c, x)
				}
				if over && x.Phase == api.Done && c.Phase != api.Shipping {
					t.Fatalf("%v became %v", c, x)
				}
				walk(x, heard+1)
			}
		}
	}
	for _, goods := range []bool{false, true} {
		for _, amount := range []int64{0, 500} {
			walk(cycle.Begin(1, 90, amount, 10, goods), 0)
		}
	}
	if ends[api.Done] == 0 || ends[api.Unpaid] == 0 || ends[api.Refunded] == 0 || len(ends) != 3 {
		t.Errorf("%v", ends)
	}
}

// P1, P2: at all numbers each call ends, and answers the same again.
func TestAny(t *testing.T) {
	ints := []int{math.MinInt, -1, 0, 1, 4, 5, 100, api.MaxDay, math.MaxInt}
	amounts := []int64{math.MinInt64, -1, 0, 1, math.MaxInt64}
	for p := range 13 {
		for _, n := range ints {
			for _, amount := range amounts {
				for _, today := range ints {
					c := api.Cycle{No: n, Due: n, Phase: byte(p), Amount: amount, Used: amount, Try: n, Next: today, Goods: p%2 == 0}
					checkAny(t, c, n, today)
				}
			}
		}
	}
}

// checkAny calls all that a cycle can be handed to, twice.
func checkAny(t *testing.T, c api.Cycle, sub, today int) {
	t.Helper()
	if cycle.Begin(sub, today, c.Amount, c.Used, c.Goods) != cycle.Begin(sub, today, c.Amount, c.Used, c.Goods) || cycle.Pass(sub, today) != cycle.Pass(sub, today) {
		t.Errorf("%d, %d, %v", sub, today, c)
	}
	if cycle.Card(c) != cycle.Card(c) || cycle.Over(c) != cycle.Over(c) || cycle.Wake(c, today) != cycle.Wake(c, today) || cycle.Ended(c) != cycle.Ended(c) {
		t.Errorf("%v, %d", c, today)
	}
	a, ok := cycle.Asks(sub, c)
	if again, same := cycle.Asks(sub, c); again != a || same != ok {
		t.Errorf("Asks(%d, %v)", sub, c)
	}
	for v := range byte(5) {
		a.Verdict = v
		x, e := cycle.Hear(sub, c, a, today, v%2 == 0)
		if again, same := cycle.Hear(sub, c, a, today, v%2 == 0); again != x || same != e {
			t.Errorf("Hear(%d, %v, %v)", sub, c, a)
		}
		if want := ok && v != 0; want != (e == api.OK) || !want && (e != api.ErrOld || x != c) {
			t.Errorf("Hear(%d, %v, %v) = %v, %d", sub, c, a, x, e)
		}
	}
}
