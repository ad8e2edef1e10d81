package rate_test

import (
	"math"
	"math/big"
	"math/rand"
	"testing"

	"paybook/api"
	"paybook/rate"
)

// amounts are numbers about all the bounds that there are.
var amounts = []int64{
	math.MinInt64, -api.MaxMoney - 1, -api.MaxMoney, -100, -2, -1,
	0, 1, 2, 3, 7, 99, 100, 1000, 12345, api.MaxPrice, 1<<49 - 1, 1 << 49, 1<<49 + 1,
	api.MaxMoney - 1, api.MaxMoney, api.MaxMoney + 1, 1 << 62, math.MaxInt64,
}

// wrongs are the floats that aren't Right.
var wrongs = []float64{
	math.NaN(), math.Float64frombits(0x7ff0000000000001), math.Float64frombits(0xffffffffffffffff),
	math.Inf(1), math.Inf(-1), -1, -0.5, -1e300, -math.MaxFloat64, -math.SmallestNonzeroFloat64,
}

// rights are floats about all the bounds of what is Right, a float of every power of two among them, and those beside it.
func rights() []float64 {
	l := []float64{
		0, math.Copysign(0, -1), math.SmallestNonzeroFloat64, math.Float64frombits(0x000fffffffffffff), 1e-300,
		0.1, 0.25, 0.29, 1.0 / 3, 0.57, 0.58, 0.999, 1.1, 1.15, 2.675, 3, 7, 12.5, 1e15, 1e16, 1e30, math.MaxFloat64,
	}
	for power := -1074; power <= 1023; power++ {
		f := math.Ldexp(1, power)
		l = append(l, math.Nextafter(f, 0), f, math.Nextafter(f, math.MaxFloat64))
	}
	return l
}

// times is the answer, by fractions of any length.
func times(amount int64, f float64) (int64, api.Errno) {
	if math.IsNaN(f) || math.IsInf(f, 0) || f < 0 {
		return 0, api.ErrArg
	}
	if amount < 0 || amount > api.MaxMoney {
		return 0, api.ErrMoney
	}
	r := new(big.Rat).SetFloat64(f)
	r.Mul(r, new(big.Rat).SetInt64(amount))
	n := new(big.Int).Quo(r.Num(), r.Denom())
	if n.Cmp(big.NewInt(api.MaxMoney)) > 0 {
		return 0, api.ErrMoney
	}
	return n.Int64(), api.OK
}

func check(t *testing.T, amount int64, f float64) {
	t.Helper()
	want, wantErr := times(amount, f)
	if n, e := rate.Times(amount, f); n != want || e != wantErr {
		t.Errorf("Times(%d, %x) = %d, %d; asked for is %d, %d", amount, f, n, e, want, wantErr)
	}
}

// P4.1: Right.
func TestRight(t *testing.T) {
	for _, f := range rights() {
		if !rate.Right(f) {
			t.Errorf("Right(%v) = false", f)
		}
	}
	for _, f := range wrongs {
		if rate.Right(f) {
			t.Errorf("Right(%v) = true", f)
		}
	}
}

// P4.1: Times, of ordinary amounts, told by hand.
func TestTimes(t *testing.T) {
	for _, c := range []struct {
		amount int64
		f      float64
		want   int64
	}{
		{100, 0.29, 28}, {100, 0.25, 25}, {100, 1, 100}, {100, 0.999, 99}, {100, 1e-300, 0}, {100, 12.5, 1250},
		{100, 0.57, 56}, {100, 1.1, 110}, {1000, 0.001, 1}, {10, 0.1, 1}, {3, 1.0 / 3, 0}, {0, 5, 0}, {1, 0.5, 0}, {3, 0.5, 1}, {7, 2, 14},
		{100, 0, 0}, {100, math.Copysign(0, -1), 0}, {0, math.MaxFloat64, 0}, {0, 0, 0}, {api.MaxMoney, 1, api.MaxMoney},
	} {
		if n, e := rate.Times(c.amount, c.f); n != c.want || e != api.OK {
			t.Errorf("Times(%d, %v) = %d, %d; asked for is %d", c.amount, c.f, n, e, c.want)
		}
	}
}

// P4.1: Times is exact where a product of floats is rounded up to a whole number.
func TestTimesIsNotRounded(t *testing.T) {
	below := math.Nextafter(1, 0)
	if n, e := rate.Times(api.MaxMoney, below); n != api.MaxMoney-1 || e != api.OK {
		t.Error(n, e)
	}
	for _, amount := range []int64{10, 100, 1000} {
		f := math.Nextafter(1/float64(amount), 0)
		if n, e := rate.Times(amount, f); n != 0 || e != api.OK {
			t.Errorf("%d times a little less than one part of so many: %d, %d", amount, n, e)
		}
	}
	if float64(100)*1.1 == 110 || int64(float64(10)*0.1) != 1 {
		t.Error("the floats of this test aren't what it takes them for")
	}
}

// P4.1: Times about MaxMoney: what is rounded down to it can be.
func TestTimesMost(t *testing.T) {
	most := float64(api.MaxMoney)
	for _, c := range []struct {
		amount int64
		f      float64
		want   int64
		err    api.Errno
	}{
		{1, most, api.MaxMoney, api.OK}, {1, most + 0.75, api.MaxMoney, api.OK}, {1, most + 1, 0, api.ErrMoney}, {1, most - 0.125, api.MaxMoney - 1, api.OK},
		{2, most/2 + 0.375, api.MaxMoney, api.OK}, {2, most/2 + 0.5, 0, api.ErrMoney}, {api.MaxMoney, 1, api.MaxMoney, api.OK},
		{api.MaxMoney, math.Nextafter(1, 2), api.MaxMoney, api.OK}, {api.MaxMoney, 1 + 1/most, 0, api.ErrMoney},
		{api.MaxMoney, 2, 0, api.ErrMoney}, {1, 1 << 52, 0, api.ErrMoney}, {1, 1 << 53, 0, api.ErrMoney}, {1, 1 << 54, 0, api.ErrMoney},
		{1, 1 << 63, 0, api.ErrMoney}, {1, 1 << 64, 0, api.ErrMoney}, {1 << 14, 1 << 50, 0, api.ErrMoney}, {1 << 15, 1 << 50, 0, api.ErrMoney},
		{api.MaxMoney, 1 << 50, 0, api.ErrMoney}, {1, math.MaxFloat64, 0, api.ErrMoney}, {api.MaxMoney, math.MaxFloat64, 0, api.ErrMoney},
		{api.MaxMoney, math.SmallestNonzeroFloat64, 0, api.OK},
	} {
		if n, e := rate.Times(c.amount, c.f); n != c.want || e != c.err {
			t.Errorf("Times(%d, %v) = %d, %d; asked for is %d, %d", c.amount, c.f, n, e, c.want, c.err)
		}
	}
}

// P4.1: Times at all edges of both, held against fractions of any length.
func TestTimesEdges(t *testing.T) {
	l := append(rights(), wrongs...)
	for _, amount := range amounts {
		for _, f := range l {
			check(t, amount, f)
		}
	}
}

// P4.1: Times of many amounts and floats, held against fractions of any length.
func TestTimesMany(t *testing.T) {
	r := rand.New(rand.NewSource(4))
	for range 100000 {
		amount := r.Int63() >> (13 + r.Intn(50))
		check(t, amount, r.Float64())
		check(t, amount, float64(r.Intn(100000))/100)
		check(t, amount, math.Ldexp(1+r.Float64(), r.Intn(140)-80))
		check(t, amount, math.Float64frombits(r.Uint64()))
	}
}

// P4.1: the first of the errors that the chapter tells holds, and 0 stands beside each.
func TestTimesErrors(t *testing.T) {
	for _, f := range wrongs {
		for _, amount := range amounts {
			if n, e := rate.Times(amount, f); n != 0 || e != api.ErrArg {
				t.Errorf("Times(%d, %v) = %d, %d", amount, f, n, e)
			}
		}
	}
	for _, f := range []float64{0, math.Copysign(0, -1), 0.29, 1, math.MaxFloat64} {
		for _, amount := range []int64{math.MinInt64, -api.MaxMoney, -1, api.MaxMoney + 1, math.MaxInt64} {
			if n, e := rate.Times(amount, f); n != 0 || e != api.ErrMoney {
				t.Errorf("Times(%d, %v) = %d, %d", amount, f, n, e)
			}
		}
	}
}

// P4.1: Plain: of both noughts the one without a sign, all others as they are.
func TestPlain(t *testing.T) {
	for _, f := range []float64{0, math.Copysign(0, -1)} {
		if bits := math.Float64bits(rate.Plain(f)); bits != 0 {
			t.Errorf("Plain(%v) has the bits %x", f, bits)
		}
	}
	for _, f := range append(rights()[2:], wrongs...) {
		got := rate.Plain(f)
		if math.IsNaN(f) {
			if !math.IsNaN(got) {
				t.Errorf("Plain(NaN) = %v", got)
			}
		} else if math.Float64bits(got) != math.Float64bits(f) {
			t.Errorf("Plain(%v) = %v", f, got)
		}
	}
}

// P1: no call panics, whatever bits a float has. P2: asked again, each answers the same.
func TestNonePanicsNorForgets(t *testing.T) {
	r := rand.New(rand.NewSource(1))
	for range 100000 {
		amount, f := int64(r.Uint64()), math.Float64frombits(r.Uint64())
		n, e := rate.Times(amount, f)
		right, plain := rate.Right(f), rate.Plain(f)
		rate.Times(amount+1, -f)
		if m, d := rate.Times(amount, f); m != n || d != e {
			t.Errorf("Times(%d, %v) = %d, %d, and then %d, %d", amount, f, n, e, m, d)
		}
		if rate.Right(f) != right || !math.IsNaN(f) && rate.Plain(f) != plain {
			t.Errorf("Right or Plain of %v answered otherwise", f)
		}
	}
}
