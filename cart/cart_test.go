package cart_test

import (
	"math"
	"math/rand"
	"slices"
	"testing"

	"paybook/api"
	"paybook/cart"
)

// wild are numbers that a notice may have, though no order names them.
var wild = []int{math.MinInt, -1, 0, 1, 2, 31, 32, api.MaxDay, api.MaxDay + 1, math.MaxInt}

// ship asks that a cycle's thing be sent.
func ship(sub, cycle int) api.Notice {
	return api.Notice{Kind: api.Ship, Sub: sub, Cycle: cycle}
}

// hear: a cart answers a notice by a verdict; all else of it stays.
func hear(t *testing.T, c *cart.Cart, n api.Notice, verdict, want byte) {
	t.Helper()
	asked := n
	asked.Verdict = want
	if a, ok := c.Hear(n, verdict); !ok || a != asked {
		t.Errorf("Hear(%+v, %d) = %+v, %t; asked for is %+v", n, verdict, a, ok, asked)
	}
}

// deaf: a cart doesn't hear a notice, and answers nothing beside that.
func deaf(t *testing.T, c *cart.Cart, n api.Notice, verdict byte) {
	t.Helper()
	if a, ok := c.Hear(n, verdict); ok || a != (api.Notice{}) {
		t.Errorf("Hear(%+v, %d) = %+v, %t; asked for is false", n, verdict, a, ok)
	}
}

// checkTrips: a cart's trips are these, in order; each was sent so often as it is among them, no other one was.
func checkTrips(t *testing.T, c *cart.Cart, want ...cart.Trip) {
	t.Helper()
	if l := c.Trips(); !slices.Equal(l, want) {
		t.Errorf("Trips() = %+v; asked for is %+v", l, want)
	}
	for _, sub := range wild {
		for _, cycle := range wild {
			sent := 0
			if slices.Contains(want, cart.Trip{Sub: sub, Cycle: cycle}) {
				sent = 1
			}
			if n := c.Sent(sub, cycle); n != sent {
				t.Errorf("Sent(%d, %d) = %d; asked for is %d", sub, cycle, n, sent)
			}
		}
	}
}

// said is what a cart makes of a verdict.
func said(verdict byte) byte {
	if verdict == 1 {
		return 1
	}
	return 3
}

// P17.1: a new cart has sent nothing; and the chapter's example.
func TestExample(t *testing.T) {
	c := cart.New()
	checkTrips(t, c)
	hear(t, c, ship(0, 0), api.Yes, api.Yes)
	hear(t, c, ship(0, 0), api.Yes, api.Yes)
	checkTrips(t, c, cart.Trip{})
	if n := c.Sent(0, 0); n != 1 {
		t.Errorf("Sent(0, 0) = %d", n)
	}
}

// P17.1: heard is what has no verdict yet, and is a Ship; nothing else, and that changes nothing.
func TestWhatIsHeard(t *testing.T) {
	c := cart.New()
	hear(t, c, ship(1, 2), api.Yes, api.Yes)
	for kind := range 256 {
		for verdict := range 256 {
			if verdict == 0 && kind == 5 {
				continue
			}
			for cycle := 1; cycle <= 2; cycle++ {
				n := api.Notice{Kind: byte(kind), Sub: 1, Cycle: cycle, Verdict: byte(verdict)}
				for _, word := range []byte{api.Ask, api.Yes, api.Soft, api.No, 4, 255} {
					deaf(t, c, n, word)
				}
			}
		}
	}
	checkTrips(t, c, cart.Trip{Sub: 1, Cycle: 2})
	hear(t, c, ship(1, 1), api.Yes, api.Yes)
	checkTrips(t, c, cart.Trip{Sub: 1, Cycle: 2}, cart.Trip{Sub: 1, Cycle: 1})
}

// P17.1: of Yes there is a Trip; all else is No, a Soft too.
func TestVerdicts(t *testing.T) {
	for verdict := range 256 {
		c := cart.New()
		hear(t, c, ship(2, 31), byte(verdict), said(byte(verdict)))
		if verdict == 1 {
			checkTrips(t, c, cart.Trip{Sub: 2, Cycle: 31})
			continue
		}
		checkTrips(t, c)
	}
}

// P17.1: what was said first holds, whatever is said later, and whatever try or amount it tells; it is sent once.
func TestFirstVerdictHolds(t *testing.T) {
	for first := range 256 {
		c := cart.New()
		hear(t, c, ship(2, 31), byte(first), said(byte(first)))
		for later := range 6 {
			n := ship(2, 31)
			n.Try, n.Amount = later, int64(later*100)
			hear(t, c, n, byte(later), said(byte(first)))
		}
		if first == 1 {
			checkTrips(t, c, cart.Trip{Sub: 2, Cycle: 31})
			continue
		}
		checkTrips(t, c)
	}
}

// P17.1: each cycle of each subscription has its own, in the order in which they were sent; numbers that no order has, too.
func TestEachCycle(t *testing.T) {
	c := cart.New()
	var l []cart.Trip
	for i, cycle := range wild {
		for j, sub := range wild {
			if (i+j)%3 == 0 {
				hear(t, c, ship(sub, cycle), api.No, api.No)
				continue
			}
			hear(t, c, ship(sub, cycle), api.Yes, api.Yes)
			l = append(l, cart.Trip{Sub: sub, Cycle: cycle})
			checkTrips(t, c, l...)
		}
	}
	for i, cycle := range wild {
		for j, sub := range wild {
			if (i+j)%3 == 0 {
				hear(t, c, ship(sub, cycle), api.Yes, api.No)
				continue
			}
			hear(t, c, ship(sub, cycle), api.No, api.Yes)
		}
	}
	checkTrips(t, c, l...)
}

// P17.1, Memory: an answered list may be appended to, and stays as it is.
func TestTripsAreTheCallers(t *testing.T) {
	c := cart.New()
	var l, told, longer []cart.Trip
	for i, cycle := range wild {
		hear(t, c, ship(1, cycle), api.Yes, api.Yes)
		if !slices.Equal(told, l) || i > 0 && !slices.Equal(longer, append(slices.Clone(l), cart.Trip{Sub: 9})) {
			t.Fatalf("the lists of before are %+v, %+v", told, longer)
		}
		l = append(l, cart.Trip{Sub: 1, Cycle: cycle})
		checkTrips(t, c, l...)
		told = c.Trips()
		longer = append(told, cart.Trip{Sub: 9})
		checkTrips(t, c, l...)
	}
}

// P1, P17.1: a nil cart hears nothing, and has nothing.
func TestNil(t *testing.T) {
	var c *cart.Cart
	for kind := range 256 {
		n := ship(1, 2)
		n.Kind = byte(kind)
		deaf(t, c, n, api.Yes)
	}
	checkTrips(t, c)
}

// P17.1, P2: any letters, held one by one against what was said first; a cart beside it that hears the same answers the same.
func TestWalks(t *testing.T) {
	r := rand.New(rand.NewSource(17))
	for range 1000 {
		c, beside := cart.New(), cart.New()
		first := map[[2]int]byte{}
		var l []cart.Trip
		for range 30 {
			sub, cycle, verdict := r.Intn(3), r.Intn(4), byte(r.Intn(5))
			k := [2]int{sub, cycle}
			if first[k] == 0 {
				first[k] = said(verdict)
				if verdict == api.Yes {
					l = append(l, cart.Trip{Sub: sub, Cycle: cycle})
				}
			}
			hear(t, c, ship(sub, cycle), verdict, first[k])
			hear(t, beside, ship(sub, cycle), verdict, first[k])
			checkTrips(t, c, l...)
			checkTrips(t, beside, l...)
		}
		if t.Failed() {
			return
		}
	}
}
