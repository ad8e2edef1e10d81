package till_test

import (
	"math"
	"slices"
	"testing"

	"paybook/api"
	"paybook/till"
)

// wild are numbers that a notice may have, though no order names them.
var wild = []int{math.MinInt, -1, 0, 1, 2, 31, 32, api.MaxDay, api.MaxDay + 1, math.MaxInt}

// charge is one that is asked; refund one of a cycle.
func charge(sub, cycle, try int, amount int64) api.Notice {
	return api.Notice{Kind: api.Charge, Sub: sub, Cycle: cycle, Try: try, Amount: amount}
}

func refund(sub, cycle int) api.Notice {
	return api.Notice{Kind: api.Refund, Sub: sub, Cycle: cycle}
}

// hear: a till answers a notice by a verdict; all else of it stays.
func hear(t *testing.T, x *till.Till, n api.Notice, verdict, want byte) {
	t.Helper()
	asked := n
	asked.Verdict = want
	if a, ok := x.Hear(n, verdict); !ok || a != asked {
		t.Errorf("Hear(%+v, %d) = %+v, %t; asked for is %+v", n, verdict, a, ok, asked)
	}
}

// deaf: a till doesn't hear a notice, and answers nothing beside that.
func deaf(t *testing.T, x *till.Till, n api.Notice, verdict byte) {
	t.Helper()
	if a, ok := x.Hear(n, verdict); ok || a != (api.Notice{}) {
		t.Errorf("Hear(%+v, %d) = %+v, %t; asked for is false", n, verdict, a, ok)
	}
}

// checkEntries: a till's entries are these, and its sums what they come to, of each cycle and each subscription of which something is.
func checkEntries(t *testing.T, x *till.Till, want ...till.Entry) {
	t.Helper()
	if l := x.Entries(); !slices.Equal(l, want) {
		t.Errorf("Entries() = %+v; asked for is %+v", l, want)
	}
	taken, net := sums(want)
	for c, n := range taken {
		if got := x.Taken(c[0], c[1]); got != n {
			t.Errorf("Taken(%d, %d) = %d; asked for is %d", c[0], c[1], got, n)
		}
	}
	for sub, n := range net {
		if got := x.Net(sub); got != n {
			t.Errorf("Net(%d) = %d; asked for is %d", sub, got, n)
		}
	}
}

// sums are what entries come to, by subscription and cycle, and by subscription.
func sums(l []till.Entry) (map[[2]int]int64, map[int]int64) {
	taken, net := map[[2]int]int64{}, map[int]int64{}
	for _, e := range l {
		n := e.Amount
		if e.Try == 0 {
			n = -n
		}
		taken[[2]int{e.Sub, e.Cycle}] += n
		net[e.Sub] += n
	}
	return taken, net
}

// P15.1: a new till has taken nothing.
func TestNew(t *testing.T) {
	x := till.New()
	checkEntries(t, x)
	for _, sub := range wild {
		if n := x.Net(sub); n != 0 {
			t.Errorf("Net(%d) = %d", sub, n)
		}
		for _, cycle := range wild {
			if n := x.Taken(sub, cycle); n != 0 {
				t.Errorf("Taken(%d, %d) = %d", sub, cycle, n)
			}
		}
	}
}

// P15.1: the chapter's example.
func TestExample(t *testing.T) {
	x := till.New()
	hear(t, x, charge(0, 0, 1, 100), api.Yes, api.Yes)
	hear(t, x, charge(0, 0, 1, 100), api.Yes, api.Yes)
	checkEntries(t, x, till.Entry{Try: 1, Amount: 100})
	if n := x.Net(0); n != 100 {
		t.Errorf("Net(0) = %d", n)
	}
	hear(t, x, refund(0, 0), api.Yes, api.Yes)
	if n := x.Net(0); n != 0 {
		t.Errorf("Net(0) = %d", n)
	}
	checkEntries(t, x, till.Entry{Try: 1, Amount: 100}, till.Entry{Amount: 100})
}

// P15.1: heard is what has no verdict yet, and is a Charge or a Refund; nothing else, and that changes nothing.
func TestWhatIsHeard(t *testing.T) {
	x := till.New()
	hear(t, x, charge(1, 2, 1, 500), api.Yes, api.Yes)
	for kind := range 256 {
		for verdict := range 256 {
			n := api.Notice{Kind: byte(kind), Sub: 1, Cycle: 2, Try: 3, Amount: 700, Verdict: byte(verdict)}
			if verdict == 0 && (kind == 1 || kind == 2) {
				continue
			}
			for _, word := range []byte{api.Ask, api.Yes, api.Soft, api.No, 4, 255} {
				deaf(t, x, n, word)
			}
		}
	}
	checkEntries(t, x, till.Entry{Sub: 1, Cycle: 2, Try: 1, Amount: 500})
	hear(t, x, charge(1, 2, 3, 700), api.Soft, api.Soft)
	hear(t, x, refund(1, 2), api.Soft, api.Yes)
}

// P15.1: of subscriptions and cycles of any number, up to tries and amounts of any.
func TestNumbersThatNoOrderHas(t *testing.T) {
	for _, sub := range wild {
		for _, cycle := range wild {
			for _, try := range []int{1, 4, 5, 100, 101, math.MaxInt} {
				for _, amount := range []int64{1, api.MaxMoney, api.MaxMoney + 1, math.MaxInt64} {
					x := till.New()
					hear(t, x, charge(sub, cycle, try, amount), api.Yes, api.Yes)
					took := till.Entry{Sub: sub, Cycle: cycle, Try: try, Amount: amount}
					checkEntries(t, x, took)
					hear(t, x, refund(sub, cycle), api.No, api.Yes)
					checkEntries(t, x, took, till.Entry{Sub: sub, Cycle: cycle, Amount: amount})
				}
			}
		}
	}
}

// said is what a till makes of a verdict on a charge.
func said(verdict byte) byte {
	switch verdict {
	case 1, 2:
		return verdict
	}
	return 3
}

// P15.1: a Charge's verdict is Yes, Soft or No; what is none of these is No. Of Yes alone there is an Entry.
func TestVerdicts(t *testing.T) {
	for verdict := range 256 {
		x := till.New()
		hear(t, x, charge(3, 4, 2, 250), byte(verdict), said(byte(verdict)))
		if verdict == 1 {
			checkEntries(t, x, till.Entry{Sub: 3, Cycle: 4, Try: 2, Amount: 250})
			continue
		}
		checkEntries(t, x)
		if x.Taken(3, 4) != 0 || x.Net(3) != 0 {
			t.Errorf("of %d something was taken", verdict)
		}
	}
}

// P15.1: the verdict that was said first holds, whatever is said later, and of whatever amount; it is taken once.
func TestFirstVerdictHolds(t *testing.T) {
	words := []byte{api.Ask, api.Yes, api.Soft, api.No, 4, 128, 255}
	for _, first := range words {
		x := till.New()
		hear(t, x, charge(3, 4, 2, 250), first, said(first))
		for _, later := range words {
			hear(t, x, charge(3, 4, 2, 250), later, said(first))
			hear(t, x, charge(3, 4, 2, 251), later, said(first))
		}
		if first == api.Yes {
			checkEntries(t, x, till.Entry{Sub: 3, Cycle: 4, Try: 2, Amount: 250})
			continue
		}
		checkEntries(t, x)
	}
}

// P15.1: a Charge of another subscription, cycle or try is another one.
func TestOtherCharges(t *testing.T) {
	x := till.New()
	var l []till.Entry
	for sub := range 3 {
		for cycle := range 3 {
			for try := 1; try <= 3; try++ {
				hear(t, x, charge(sub, cycle, try, 1), api.Soft, api.Soft)
			}
			for try := 4; try <= 6; try++ {
				e := till.Entry{Sub: sub, Cycle: cycle, Try: try, Amount: int64(1000*sub + 100*cycle + try)}
				hear(t, x, charge(sub, cycle, try, e.Amount), api.Yes, api.Yes)
				l = append(l, e)
				checkEntries(t, x, l...)
			}
			hear(t, x, charge(sub, cycle, 7, 1), api.No, api.No)
		}
	}
	// Each has what was said to it, and no other one's.
	for sub := range 3 {
		for cycle := range 3 {
			for try := 1; try <= 7; try++ {
				hear(t, x, charge(sub, cycle, try, 9), api.Yes, []byte{2, 2, 2, 1, 1, 1, 3}[try-1])
			}
		}
	}
	checkEntries(t, x, l...)
}

// P15.1: of a cycle of which nothing was taken a Refund is No, whatever the bank would say, and stays so.
func TestRefundOfNothing(t *testing.T) {
	for verdict := range 256 {
		x := till.New()
		hear(t, x, charge(1, 3, 1, 100), api.Yes, api.Yes) // of another cycle
		hear(t, x, charge(2, 2, 1, 100), api.Yes, api.Yes) // of another subscription
		hear(t, x, charge(1, 2, 1, 100), api.Soft, api.Soft)
		hear(t, x, refund(1, 2), byte(verdict), api.No)
		hear(t, x, charge(1, 2, 2, 100), api.Yes, api.Yes)
		hear(t, x, refund(1, 2), byte(verdict), api.No)
		checkEntries(t, x,
			till.Entry{Sub: 1, Cycle: 3, Try: 1, Amount: 100},
			till.Entry{Sub: 2, Cycle: 2, Try: 1, Amount: 100},
			till.Entry{Sub: 1, Cycle: 2, Try: 2, Amount: 100})
	}
}

// P15.1: given back is all that was taken of the cycle, once, whatever the bank would say, and whatever amount or try the Refund tells.
func TestRefund(t *testing.T) {
	for verdict := range 256 {
		x := till.New()
		l := []till.Entry{
			{Sub: 1, Cycle: 2, Try: 1, Amount: 100},
			{Sub: 1, Cycle: 3, Try: 1, Amount: 1000},
			{Sub: 1, Cycle: 2, Try: 3, Amount: 20},
			{Sub: 4, Cycle: 2, Try: 1, Amount: 3000},
		}
		for _, e := range l {
			hear(t, x, charge(e.Sub, e.Cycle, e.Try, e.Amount), api.Yes, api.Yes)
		}
		l = append(l, till.Entry{Sub: 1, Cycle: 2, Amount: 120})
		for try := range 3 {
			n := refund(1, 2)
			n.Try, n.Amount = try, int64(try*77)
			hear(t, x, n, byte(verdict), api.Yes)
			hear(t, x, n, 255-byte(verdict), api.Yes)
			checkEntries(t, x, l...)
		}
		if x.Taken(1, 2) != 0 || x.Net(1) != 1000 || x.Net(4) != 3000 {
			t.Errorf("%d, %d, %d are taken", x.Taken(1, 2), x.Net(1), x.Net(4))
		}
	}
}

// P15.1: behind a Refund a Charge that was heard is answered as it was, and not taken again; another try is taken, and a Refund that was Yes gives no more back.
func TestChargeBehindRefund(t *testing.T) {
	x := till.New()
	hear(t, x, charge(1, 2, 1, 100), api.Soft, api.Soft)
	hear(t, x, charge(1, 2, 2, 100), api.Yes, api.Yes)
	hear(t, x, refund(1, 2), api.Yes, api.Yes)
	hear(t, x, charge(1, 2, 1, 100), api.Yes, api.Soft)
	hear(t, x, charge(1, 2, 2, 100), api.No, api.Yes)
	l := []till.Entry{{Sub: 1, Cycle: 2, Try: 2, Amount: 100}, {Sub: 1, Cycle: 2, Amount: 100}}
	checkEntries(t, x, l...)
	hear(t, x, charge(1, 2, 3, 70), api.Yes, api.Yes)
	hear(t, x, refund(1, 2), api.Yes, api.Yes)
	l = append(l, till.Entry{Sub: 1, Cycle: 2, Try: 3, Amount: 70})
	checkEntries(t, x, l...)
	if x.Taken(1, 2) != 70 || x.Net(1) != 70 {
		t.Errorf("%d, %d are taken", x.Taken(1, 2), x.Net(1))
	}
}

// P15.1: Charges of which only that is promised are heard; other cycles' Charges, and what they come to, are as ever.
func TestOnlyHeard(t *testing.T) {
	x := till.New()
	for _, try := range []int{math.MinInt, -1, 0, 1} {
		for _, amount := range []int64{math.MinInt64, -1, 0, 100} {
			if try > 0 && amount > 0 {
				continue
			}
			for verdict := range 256 {
				if _, ok := x.Hear(charge(1, 2, try, amount), byte(verdict)); !ok {
					t.Errorf("a Charge of try %d and %d isn't heard", try, amount)
				}
			}
		}
	}
	hear(t, x, charge(1, 3, 1, 100), api.Yes, api.Yes)
	hear(t, x, charge(2, 2, 1, 10), api.Yes, api.Yes)
	hear(t, x, refund(1, 3), api.Yes, api.Yes)
	if x.Taken(1, 3) != 0 || x.Taken(2, 2) != 10 || x.Net(2) != 10 {
		t.Errorf("%d, %d, %d are taken", x.Taken(1, 3), x.Taken(2, 2), x.Net(2))
	}
	others := slices.DeleteFunc(x.Entries(), func(e till.Entry) bool { return e.Sub == 1 && e.Cycle == 2 })
	want := []till.Entry{{Sub: 1, Cycle: 3, Try: 1, Amount: 100}, {Sub: 2, Cycle: 2, Try: 1, Amount: 10}, {Sub: 1, Cycle: 3, Amount: 100}}
	if !slices.Equal(others, want) {
		t.Errorf("the other cycles' entries are %+v", others)
	}
}

// P15.1, Memory: an answered list may be appended to, and stays as it is.
func TestEntriesAreTheCallers(t *testing.T) {
	x := till.New()
	var l, told, longer []till.Entry
	for try := 1; try <= 20; try++ {
		e := till.Entry{Sub: 1, Cycle: 2, Try: try, Amount: 100}
		hear(t, x, charge(1, 2, try, 100), api.Yes, api.Yes)
		if !slices.Equal(told, l) || try > 1 && !slices.Equal(longer, append(slices.Clone(l), till.Entry{Sub: 9})) {
			t.Fatalf("the lists of before are %+v, %+v", told, longer)
		}
		l = append(l, e)
		checkEntries(t, x, l...)
		told = x.Entries()
		longer = append(told, till.Entry{Sub: 9})
		checkEntries(t, x, l...)
	}
}

// P1, P15.1: a nil till hears nothing, and has nothing.
func TestNil(t *testing.T) {
	var x *till.Till
	for kind := range 256 {
		n := charge(1, 2, 1, 100)
		n.Kind = byte(kind)
		deaf(t, x, n, api.Yes)
	}
	if x.Taken(1, 2) != 0 || x.Net(1) != 0 || len(x.Entries()) != 0 {
		t.Error("a nil till has something")
	}
}
