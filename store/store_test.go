package store_test

import (
	"math"
	"math/rand"
	"slices"
	"testing"

	"paybook/api"
	"paybook/store"
)

// wild are numbers that a notice may have, though no order names them.
var wild = []int{math.MinInt, -1, 0, 1, 2, 31, 32, api.MaxDay, api.MaxDay + 1, math.MaxInt}

// allocate asks that something be laid aside for a cycle; release that it be put back.
func allocate(sub, cycle int) api.Notice {
	return api.Notice{Kind: api.Allocate, Sub: sub, Cycle: cycle}
}

func release(sub, cycle int) api.Notice {
	return api.Notice{Kind: api.Release, Sub: sub, Cycle: cycle}
}

// hear: a store answers a notice by a verdict; all else of it stays.
func hear(t *testing.T, s *store.Store, n api.Notice, verdict, want byte) {
	t.Helper()
	asked := n
	asked.Verdict = want
	if a, ok := s.Hear(n, verdict); !ok || a != asked {
		t.Errorf("Hear(%+v, %d) = %+v, %t; asked for is %+v", n, verdict, a, ok, asked)
	}
}

// deaf: a store doesn't hear a notice, and answers nothing beside that.
func deaf(t *testing.T, s *store.Store, n api.Notice, verdict byte) {
	t.Helper()
	if a, ok := s.Hear(n, verdict); ok || a != (api.Notice{}) {
		t.Errorf("Hear(%+v, %d) = %+v, %t; asked for is false", n, verdict, a, ok)
	}
}

// checkAside: something is laid aside for these (subscription, cycle), and for none of some others.
func checkAside(t *testing.T, s *store.Store, want ...[2]int) {
	t.Helper()
	if n := s.Count(); n != len(want) {
		t.Errorf("Count() = %d; asked for is %d", n, len(want))
	}
	for _, sub := range wild {
		for _, cycle := range wild {
			if there := slices.Contains(want, [2]int{sub, cycle}); s.Aside(sub, cycle) != there {
				t.Errorf("Aside(%d, %d) = %t", sub, cycle, !there)
			}
		}
	}
}

// said is what a store makes of a verdict.
func said(verdict byte) byte {
	if verdict == 1 {
		return 1
	}
	return 3
}

// P16.1: in a new store nothing is laid aside; and the chapter's example.
func TestExample(t *testing.T) {
	s := store.New()
	checkAside(t, s)
	hear(t, s, allocate(0, 0), api.Yes, api.Yes)
	checkAside(t, s, [2]int{0, 0})
	hear(t, s, release(0, 0), api.Yes, api.Yes)
	checkAside(t, s)
	hear(t, s, allocate(0, 0), api.Yes, api.Yes)
	checkAside(t, s)
}

// P16.1: heard is what has no verdict yet, and is an Allocate or a Release; nothing else, and that changes nothing.
func TestWhatIsHeard(t *testing.T) {
	s := store.New()
	hear(t, s, allocate(1, 2), api.Yes, api.Yes)
	for kind := range 256 {
		for verdict := range 256 {
			if verdict == 0 && (kind == 3 || kind == 4) {
				continue
			}
			for cycle := 1; cycle <= 2; cycle++ {
				n := api.Notice{Kind: byte(kind), Sub: 1, Cycle: cycle, Verdict: byte(verdict)}
				for _, word := range []byte{api.Ask, api.Yes, api.Soft, api.No, 4, 255} {
					deaf(t, s, n, word)
				}
			}
		}
	}
	checkAside(t, s, [2]int{1, 2})
	hear(t, s, allocate(1, 1), api.Yes, api.Yes)
	checkAside(t, s, [2]int{1, 1}, [2]int{1, 2})
}

// P16.1: of Yes something is laid aside; all else is No, a Soft too.
func TestVerdicts(t *testing.T) {
	for verdict := range 256 {
		s := store.New()
		hear(t, s, allocate(2, 31), byte(verdict), said(byte(verdict)))
		if verdict == 1 {
			checkAside(t, s, [2]int{2, 31})
			continue
		}
		checkAside(t, s)
	}
}

// P16.1: what was said to the first Allocate holds, whatever is said later, and whatever try or amount it tells.
func TestFirstVerdictHolds(t *testing.T) {
	for first := range 256 {
		s := store.New()
		hear(t, s, allocate(2, 31), byte(first), said(byte(first)))
		for later := range 6 {
			n := allocate(2, 31)
			n.Try, n.Amount = later, int64(later*100)
			hear(t, s, n, byte(later), said(byte(first)))
		}
		if first == 1 {
			checkAside(t, s, [2]int{2, 31})
			continue
		}
		checkAside(t, s)
	}
}

// P16.1: each cycle of each subscription has its own; numbers that no order has, too.
func TestEachCycle(t *testing.T) {
	s := store.New()
	var there [][2]int
	for i, sub := range wild {
		for j, cycle := range wild {
			if (i+j)%3 == 0 {
				hear(t, s, allocate(sub, cycle), api.No, api.No)
				continue
			}
			hear(t, s, allocate(sub, cycle), api.Yes, api.Yes)
			there = append(there, [2]int{sub, cycle})
			checkAside(t, s, there...)
		}
	}
	for len(there) > 0 {
		hear(t, s, release(there[0][0], there[0][1]), api.Yes, api.Yes)
		there = there[1:]
		checkAside(t, s, there...)
	}
}

// P16.1: a Release is always Yes, whatever the verdict, and however often; nothing is laid aside any more, and nothing is again.
func TestRelease(t *testing.T) {
	for verdict := range 256 {
		for _, first := range []byte{api.Yes, api.No} {
			s := store.New()
			hear(t, s, allocate(1, 2), api.Yes, api.Yes)
			hear(t, s, allocate(2, 1), first, first)
			for range 2 {
				hear(t, s, release(2, 1), byte(verdict), api.Yes)
				checkAside(t, s, [2]int{1, 2})
				hear(t, s, allocate(2, 1), api.Yes, first)
				checkAside(t, s, [2]int{1, 2})
			}
		}
	}
}

// P16.1: No is said to an Allocate that comes first behind a Release, and to each behind it; of another cycle not.
func TestAllocateBehindRelease(t *testing.T) {
	for verdict := range 256 {
		s := store.New()
		hear(t, s, release(2, 1), byte(verdict), api.Yes)
		checkAside(t, s)
		hear(t, s, allocate(2, 1), api.Yes, api.No)
		hear(t, s, allocate(2, 1), byte(verdict), api.No)
		hear(t, s, release(2, 1), byte(verdict), api.Yes)
		hear(t, s, allocate(2, 1), api.Yes, api.No)
		checkAside(t, s)
		hear(t, s, allocate(2, 2), api.Yes, api.Yes)
		hear(t, s, allocate(1, 1), api.Yes, api.Yes)
		checkAside(t, s, [2]int{2, 2}, [2]int{1, 1})
	}
}

// P1, P16.1: a nil store hears nothing, and has nothing.
func TestNil(t *testing.T) {
	var s *store.Store
	for kind := range 256 {
		n := allocate(1, 2)
		n.Kind = byte(kind)
		deaf(t, s, n, api.Yes)
	}
	checkAside(t, s)
}

// told is a notice, and the answer to it.
type told struct {
	n, a api.Notice
}

// answer is what a store says behind all that it was told, and aside whether something lies there for a cycle, both by looking through all of it.
func answer(l []told, n api.Notice, verdict byte) byte {
	if n.Kind == api.Release {
		return api.Yes
	}
	same := func(x told) bool { return x.n.Sub == n.Sub && x.n.Cycle == n.Cycle }
	at := slices.IndexFunc(l, func(x told) bool { return same(x) && x.n.Kind == api.Allocate })
	switch {
	case at >= 0:
		return l[at].a.Verdict
	case slices.ContainsFunc(l, same): // Releases alone
		return api.No
	}
	return said(verdict)
}

func aside(l []told, sub, cycle int) bool {
	n := allocate(sub, cycle)
	return answer(l, n, api.No) == api.Yes && !slices.ContainsFunc(l, func(x told) bool {
		return x.n.Kind == api.Release && x.n.Sub == sub && x.n.Cycle == cycle
	})
}

// P16.1, P2: any letters, held one by one against all that was told; a store beside it that hears the same answers the same.
func TestWalks(t *testing.T) {
	r := rand.New(rand.NewSource(16))
	for range 1000 {
		s, beside := store.New(), store.New()
		var l []told
		for range 60 {
			n, verdict := allocate(r.Intn(3), r.Intn(3)), byte(1+r.Intn(3))
			if r.Intn(3) == 0 {
				n.Kind = api.Release
			}
			a := n
			a.Verdict = answer(l, n, verdict)
			hear(t, s, n, verdict, a.Verdict)
			hear(t, beside, n, verdict, a.Verdict)
			l = append(l, told{n, a})
			var there [][2]int
			for i := range 9 {
				if aside(l, i/3, i%3) {
					there = append(there, [2]int{i / 3, i % 3})
				}
			}
			checkAside(t, s, there...)
		}
		if t.Failed() {
			return
		}
	}
}
