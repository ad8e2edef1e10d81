package till_test

import (
	"math/rand"
	"slices"
	"testing"

	"paybook/api"
	"paybook/till"
)

// A ledger is a till that keeps each answer it has given, and looks through all of them.
type ledger struct {
	answered []api.Notice
	entries  []till.Entry

	given int // how many Refunds gave something back
}

// hear is the answer to a Charge or a Refund.
func (l *ledger) hear(n api.Notice, verdict byte) api.Notice {
	at := slices.IndexFunc(l.answered, func(a api.Notice) bool {
		return a.Kind == n.Kind && a.Sub == n.Sub && a.Cycle == n.Cycle && (n.Kind == api.Refund || a.Try == n.Try)
	})
	switch taken, _ := sums(l.entries); {
	case at >= 0:
		n.Verdict = l.answered[at].Verdict
	case n.Kind == api.Charge && verdict == api.Yes:
		n.Verdict = verdict
		l.entries = append(l.entries, till.Entry{Sub: n.Sub, Cycle: n.Cycle, Try: n.Try, Amount: n.Amount})
	case n.Kind == api.Charge:
		n.Verdict = said(verdict)
	case taken[[2]int{n.Sub, n.Cycle}] == 0:
		n.Verdict = api.No
	default:
		n.Verdict = api.Yes
		l.given++
		l.entries = append(l.entries, till.Entry{Sub: n.Sub, Cycle: n.Cycle, Amount: taken[[2]int{n.Sub, n.Cycle}]})
	}
	l.answered = append(l.answered, n)
	return n
}

// letter is a notice: mostly one that a till hears.
func letter(r *rand.Rand) api.Notice {
	n := api.Notice{Kind: api.Charge, Sub: r.Intn(3), Cycle: r.Intn(4), Try: 1 + r.Intn(4), Amount: int64(1 + r.Intn(500))}
	if r.Intn(3) == 0 {
		n.Kind = api.Refund
	}
	if r.Intn(20) == 0 {
		n.Kind = byte(r.Intn(7))
	}
	if r.Intn(20) == 0 {
		n.Verdict = byte(r.Intn(5))
	}
	return n
}

// P15.1, P2: any letters, held one by one against the ledger; a till beside it that hears the same answers the same.
func TestWalks(t *testing.T) {
	r := rand.New(rand.NewSource(15))
	given := 0
	for range 500 {
		x, beside, l := till.New(), till.New(), &ledger{}
		for range 120 {
			n, verdict := letter(r), byte(r.Intn(6))
			if n.Verdict != api.Ask || n.Kind != api.Charge && n.Kind != api.Refund {
				deaf(t, x, n, verdict)
				continue
			}
			want := l.hear(n, verdict)
			hear(t, x, n, verdict, want.Verdict)
			hear(t, beside, n, verdict, want.Verdict)
			checkEntries(t, x, l.entries...)
			checkEntries(t, beside, l.entries...)
		}
		if t.Failed() {
			return
		}
		given += l.given
	}
	if given < 1000 {
		t.Errorf("%d Refunds gave something back", given)
	}
}
