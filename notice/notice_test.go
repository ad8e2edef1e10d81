package notice_test

import (
	"bytes"
	"encoding/binary"
	"hash/crc32"
	"math"
	"math/rand"
	"slices"
	"testing"

	"paybook/api"
	"paybook/notice"
	"paybook/order"
	"paybook/pack"
	"paybook/seal"
)

// samples are a notice of each kind and verdict, and at each bound.
func samples() []api.Notice {
	var l []api.Notice
	for kind := api.Charge; kind <= api.Ship; kind++ {
		for verdict := api.Ask; verdict <= api.No; verdict++ {
			l = append(l,
				api.Notice{Kind: kind, Verdict: verdict},
				api.Notice{Kind: kind, Sub: 3, Cycle: 4, Try: 1, Amount: 500, Verdict: verdict},
				api.Notice{Kind: kind, Sub: 31, Cycle: 3652058, Try: 100, Amount: 1125899906842624, Verdict: verdict},
			)
		}
	}
	return l
}

// sealed is what Encode is to make of a notice: by hand, but for the box.
func sealed(age, place uint32, under []byte) []byte {
	p := binary.BigEndian.AppendUint32(nil, uint32(len(under)))
	p = binary.BigEndian.AppendUint32(p, age)
	p = binary.BigEndian.AppendUint32(p, place)
	p = binary.BigEndian.AppendUint32(p, crc32.ChecksumIEEE(slices.Concat(p, under)))
	return append(p, under...)
}

// boxed is a notice in a box.
func boxed(n api.Notice) []byte {
	return pack.New().Put(int64(n.Kind), int64(n.Sub), int64(n.Cycle), int64(n.Try), n.Amount, int64(n.Verdict)).Done()
}

// checkNone: Decode answers ErrForm, and no notice.
func checkNone(t *testing.T, p []byte) {
	t.Helper()
	if n, e := notice.Decode(p); n != (api.Notice{}) || e != api.ErrForm {
		t.Errorf("Decode(%x) = %v, %d; asked for is ErrForm", p, n, e)
	}
}

// P11.1: the parties, told by hand; and they are numbered from 0 on.
func TestPartyByHand(t *testing.T) {
	for _, c := range []struct {
		kind byte
		want byte
	}{
		{api.Charge, notice.Till}, {api.Refund, notice.Till}, {api.Allocate, notice.Store}, {api.Release, notice.Store}, {api.Ship, notice.Cart},
	} {
		n := api.Notice{Kind: c.kind, Sub: 3, Cycle: 4, Try: 1, Amount: 500}
		if got := notice.Party(n); got != c.want {
			t.Errorf("Party(%v) = %d; asked for is %d", n, got, c.want)
		}
		for _, verdict := range []byte{api.Yes, api.Soft, api.No} {
			if got := notice.Party(notice.Answer(n, verdict)); got != notice.Clerk {
				t.Errorf("Party of the answer %d to %v = %d", verdict, n, got)
			}
		}
	}
	if notice.Till != 0 || notice.Store != 1 || notice.Cart != 2 || notice.Clerk != 3 {
		t.Error("parties")
	}
}

// P11.1: Party of each kind and verdict there may be, or not.
func TestPartyOfAll(t *testing.T) {
	for kind := range 256 {
		for verdict := range 256 {
			want := notice.Store
			switch {
			case verdict != 0:
				want = notice.Clerk
			case kind == 1, kind == 2:
				want = notice.Till
			case kind == 5:
				want = notice.Cart
			}
			if got := notice.Party(api.Notice{Kind: byte(kind), Verdict: byte(verdict), Sub: -1, Cycle: -1}); got != want {
				t.Errorf("Party of kind %d, verdict %d = %d; asked for is %d", kind, verdict, got, want)
			}
		}
	}
}

// P11.1: Answer and Asked: all but the verdict stays, of notices that aren't right, too.
func TestAnswerAsked(t *testing.T) {
	for _, n := range append(samples(), api.Notice{Kind: 9, Sub: -1, Cycle: -2, Try: -3, Amount: -4, Verdict: 200}) {
		was := n
		for verdict := range 256 {
			want := api.Notice{Kind: n.Kind, Sub: n.Sub, Cycle: n.Cycle, Try: n.Try, Amount: n.Amount, Verdict: byte(verdict)}
			a := notice.Answer(n, byte(verdict))
			if a != want || n != was {
				t.Errorf("Answer(%v, %d) = %v", was, verdict, a)
			}
			want.Verdict = 0
			if got := notice.Asked(a); got != want {
				t.Errorf("Asked(%v) = %v", a, got)
			}
		}
	}
}

// P11.1: Right of all kinds and verdicts.
func TestRightKinds(t *testing.T) {
	for kind := range 256 {
		for verdict := range 256 {
			want := kind >= 1 && kind <= 5 && verdict <= 3
			if got := notice.Right(api.Notice{Kind: byte(kind), Verdict: byte(verdict), Sub: 3}); got != want {
				t.Errorf("Right of kind %d, verdict %d = %t", kind, verdict, got)
			}
		}
	}
}

// P11.1: Right at the edges of Key, together.
func TestRightEdges(t *testing.T) {
	for _, sub := range []int{math.MinInt, -1, 0, 31, 32, 256, 1 << 32, math.MaxInt} {
		for _, cycle := range []int{math.MinInt, -1, 0, 3652058, 3652059, 1 << 32, math.MaxInt} {
			for _, try := range []int{math.MinInt, -1, 0, 100, 101, 256, 1 << 32, math.MaxInt} {
				for _, amount := range []int64{math.MinInt64, -1, 0, 1125899906842624, 1125899906842625, math.MaxInt64} {
					n := api.Notice{Kind: api.Ship, Sub: sub, Cycle: cycle, Try: try, Amount: amount, Verdict: api.No}
					want := sub >= 0 && sub <= 31 && cycle >= 0 && cycle <= 3652058 && try >= 0 && try <= 100 && amount >= 0 && amount <= 1125899906842624
					if got := notice.Right(n); got != want || order.Key(n) != want {
						t.Errorf("Right(%v) = %t", n, got)
					}
				}
			}
		}
	}
}

// P11.2: Encode, told by hand.
func TestEncodeByHand(t *testing.T) {
	n := api.Notice{Kind: api.Charge, Sub: 3, Cycle: 4, Try: 1, Amount: 500, Verdict: api.Soft}
	under := []byte{2, 6, 8, 2, 64 + 40, 15, 4}
	want := append([]byte{0, 0, 0, 7, 0, 0, 0, 0, 0, 0, 0, 0, 0x3a, 0x7f, 0x02, 0x2a}, under...)
	if got := notice.Encode(n); !bytes.Equal(got, want) || !bytes.Equal(got, sealed(0, 0, under)) {
		t.Errorf("Encode(%v) = %x; asked for is %x", n, got, want)
	}
	if got, e := notice.Decode(want); got != n || e != api.OK {
		t.Errorf("Decode(%x) = %v, %d", want, got, e)
	}
}

// P11.2: Encode is a seal of age 0, place 0, and a box of order.Put; and Decode leads back.
func TestEncodeDecode(t *testing.T) {
	for _, n := range samples() {
		p := notice.Encode(n)
		b := pack.New()
		order.Put(b, n)
		if !bytes.Equal(p, seal.Close(0, 0, b.Done())) || !bytes.Equal(p, sealed(0, 0, boxed(n))) {
			t.Errorf("Encode(%v) = %x", n, p)
		}
		if got, e := notice.Decode(p); got != n || e != api.OK {
			t.Errorf("Decode of Encode(%v), that is %x: %v, %d", n, p, got, e)
		}
	}
}

// P11.3: a byte that is another one makes a notice none: each byte, by each other one.
func TestOneByteOtherwise(t *testing.T) {
	for _, n := range samples() {
		p := notice.Encode(n)
		for at, was := range p {
			for turn := 1; turn < 256; turn++ {
				p[at] = was ^ byte(turn)
				checkNone(t, p)
			}
			p[at] = was
		}
		if got, e := notice.Decode(p); got != n || e != api.OK {
			t.Errorf("Decode(%x) = %v, %d", p, got, e)
		}
	}
}

// P11.2: bytes that end within a notice, or have something behind it or ahead of it, are none.
func TestDecodeShortAndLong(t *testing.T) {
	checkNone(t, nil)
	checkNone(t, []byte{})
	for _, n := range samples() {
		p := notice.Encode(n)
		for size := range p {
			checkNone(t, p[:size])
			checkNone(t, p[size+1:])
		}
		for _, more := range [][]byte{{0}, {255}, p} {
			checkNone(t, slices.Concat(p, more))
			checkNone(t, slices.Concat(more, p))
		}
	}
}

// P11.2: a notice under a seal that is right, but of another age or place, is none.
func TestDecodeOtherSeals(t *testing.T) {
	for _, n := range samples() {
		for _, age := range []uint32{0, 1, 256, math.MaxUint32} {
			for _, place := range []uint32{0, 1, 256, math.MaxUint32} {
				if age == 0 && place == 0 {
					continue
				}
				checkNone(t, sealed(age, place, boxed(n)))
			}
		}
	}
}

// P11.2: what isn't a notice's box is none, though its seal is right.
func TestDecodeOtherBoxes(t *testing.T) {
	good := boxed(api.Notice{Kind: api.Charge, Sub: 3, Cycle: 4, Try: 1, Amount: 500, Verdict: api.Soft})
	for size := range good {
		checkNone(t, sealed(0, 0, good[:size]))
	}
	for _, under := range [][]byte{
		append(slices.Clone(good), 0), append(slices.Clone(good), good...), append([]byte{0}, good...),
		{2, 6, 8, 2, 64 + 40, 64 + 15, 0, 4}, {64 + 2, 0, 6, 8, 2, 64 + 40, 15, 4}, {2, 6, 8, 2, 64 + 40, 15, 128 + 4}, {255},
		bytes.Repeat([]byte{127}, 100), make([]byte, 1<<20), make([]byte, 1<<20+1),
	} {
		checkNone(t, sealed(0, 0, under))
	}
}

// P11.2: a notice that isn't right is none, though its seal is right, at every edge.
func TestDecodeNotRight(t *testing.T) {
	for kind := range 256 {
		for verdict := range 256 {
			checkDecode(t, api.Notice{Kind: byte(kind), Sub: 3, Cycle: 4, Try: 1, Amount: 500, Verdict: byte(verdict)})
		}
	}
	for _, n := range samples() {
		for _, set := range []func(*api.Notice, int){
			func(n *api.Notice, x int) { n.Sub = x },
			func(n *api.Notice, x int) { n.Cycle = x },
			func(n *api.Notice, x int) { n.Try = x },
			func(n *api.Notice, x int) { n.Amount = int64(x) },
		} {
			for _, x := range []int{math.MinInt, -1 << 32, -256, -1, 0, 1, 31, 32, 100, 101, 256, 3652058, 3652059, 1 << 32, 1 << 50, 1<<50 + 1, math.MaxInt} {
				m := n
				set(&m, x)
				checkDecode(t, m)
			}
		}
	}
}

// checkDecode: a notice under a seal comes back, if it is Right; else it is none.
func checkDecode(t *testing.T, n api.Notice) {
	t.Helper()
	p := sealed(0, 0, boxed(n))
	if !notice.Right(n) {
		checkNone(t, p)
		return
	}
	if got, e := notice.Decode(p); got != n || e != api.OK || !bytes.Equal(notice.Encode(n), p) {
		t.Errorf("Decode(%x) = %v, %d; asked for is %v", p, got, e, n)
	}
}

// P11.2: a number in the box that fewer bits would wrap to a right one is in none.
func TestDecodeWrapped(t *testing.T) {
	l := []int64{1, 3, 4, 1, 500, 2}
	for at := range l {
		for _, more := range []int64{1 << 8, 1 << 16, 1 << 32, 1 << 52, 1 << 62, -1 << 8, -1 << 32} {
			x := slices.Clone(l)
			x[at] += more
			n, e := notice.Decode(sealed(0, 0, pack.New().Put(x...).Done()))
			// A cycle or an amount may be so great.
			right := x[at] >= 0 && (at == 2 && x[at] <= api.MaxDay || at == 4 && x[at] <= api.MaxMoney)
			if right != (e == api.OK) || !right && (n != (api.Notice{}) || e != api.ErrForm) {
				t.Errorf("%v: %v, %d", x, n, e)
			}
		}
	}
}

// P1, P11.2: of any bytes under a seal either a notice, that Encode makes of just these, or ErrForm.
func TestDecodeAny(t *testing.T) {
	r := rand.New(rand.NewSource(11))
	all := samples()
	told := 0
	for range 200000 {
		under := boxed(all[r.Intn(len(all))])
		for range 1 + r.Intn(2) {
			switch at := r.Intn(len(under) + 1); {
			case at == len(under) || r.Intn(6) == 0:
				under = slices.Insert(under, at, byte(r.Intn(130)))
			case r.Intn(6) == 0:
				under = slices.Delete(under, at, at+1)
			default:
				under[at] = byte(r.Intn(256)) >> r.Intn(3)
			}
		}
		p := sealed(0, 0, under)
		n, e := notice.Decode(p)
		if e == api.OK {
			told++
			if !notice.Right(n) || !bytes.Equal(notice.Encode(n), p) {
				t.Fatalf("Decode(%x) = %v, of which Encode makes %x", p, n, notice.Encode(n))
			}
		} else if n != (api.Notice{}) || e != api.ErrForm {
			t.Fatalf("Decode(%x) = %v, %d", p, n, e)
		}
	}
	if told < 1000 {
		t.Errorf("%d notices", told)
	}
	for range 100000 {
		p := make([]byte, r.Intn(40))
		r.Read(p)
		checkNone(t, p)
	}
}

// P1: Encode ends, of notices that aren't right, too; and what it makes of them is no notice.
func TestEncodeNotRight(t *testing.T) {
	for _, n := range []api.Notice{{}, {Kind: 6}, {Kind: 1, Verdict: 4}, {Kind: 1, Sub: -1}, {Kind: 1, Amount: math.MinInt64}} {
		checkNone(t, notice.Encode(n))
	}
}

// The rule of memory: what is handed in to Decode stays as it is, and what Encode answers is nobody else's.
func TestMemory(t *testing.T) {
	for _, n := range samples() {
		p := notice.Encode(n)
		was := slices.Clone(p)
		notice.Decode(p)
		if !bytes.Equal(p, was) {
			t.Errorf("Decode(%x) has made it %x", was, p)
		}
		p = append(p, 1, 2, 3)
		p[0] = 99
		if again := notice.Encode(n); !bytes.Equal(again, was) {
			t.Errorf("Encode(%v) = %x, then %x", n, was, again)
		}
	}
}

// P2: the same arguments have the same answers, whatever was asked between.
func TestAnswersDependOnArguments(t *testing.T) {
	n := api.Notice{Kind: api.Ship, Sub: 3, Cycle: 4}
	p := notice.Encode(n)
	notice.Encode(api.Notice{})
	notice.Decode([]byte{255})
	notice.Right(api.Notice{Kind: 6})
	notice.Answer(n, 9)
	if got, e := notice.Decode(p); got != n || e != api.OK || !bytes.Equal(notice.Encode(n), p) || notice.Party(n) != notice.Cart || !notice.Right(n) {
		t.Errorf("%v, %d", got, e)
	}
}
