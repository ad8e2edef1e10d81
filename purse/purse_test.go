package purse_test

import (
	"math"
	"math/big"
	"math/rand"
	"slices"
	"testing"

	"paybook/api"
	"paybook/purse"
)

// edges are numbers about all the bounds that there are.
var edges = []int64{
	math.MinInt64, math.MinInt64 + 1, -api.MaxMoney - 2, -api.MaxMoney - 1, -api.MaxMoney, -api.MaxMoney + 1, -1000, -2, -1,
	0, 1, 2, 3, 7, 99, 100, 1000, 1001, api.MaxPrice, api.MaxMoney/2 - 1, api.MaxMoney / 2, api.MaxMoney/2 + 1,
	api.MaxMoney - 1, api.MaxMoney, api.MaxMoney + 1, 1<<62 - 1, 1 << 62, 1<<62 + 1, math.MaxInt64 - 1, math.MaxInt64,
}

// right: is a number an amount, told by numbers of any length?
func right(n *big.Int) bool {
	return n.CmpAbs(big.NewInt(api.MaxMoney)) <= 0
}

// P3.1: Right.
func TestRight(t *testing.T) {
	for _, n := range edges {
		if got := purse.Right(n); got != right(big.NewInt(n)) {
			t.Errorf("Right(%d) = %t", n, got)
		}
	}
}

// P3.1: Add and Less, of ordinary amounts.
func TestAddLess(t *testing.T) {
	for _, c := range []struct{ a, b, sum, rest int64 }{
		{0, 0, 0, 0}, {5, 9, 14, -4}, {-5, 9, 4, -14}, {-5, -9, -14, 4}, {100, 100, 200, 0},
		{api.MaxMoney - 1, 1, api.MaxMoney, api.MaxMoney - 2}, {-api.MaxMoney, 0, -api.MaxMoney, -api.MaxMoney},
	} {
		if n, e := purse.Add(c.a, c.b); n != c.sum || e != api.OK {
			t.Errorf("Add(%d, %d) = %d, %d", c.a, c.b, n, e)
		}
		if n, e := purse.Less(c.a, c.b); n != c.rest || e != api.OK {
			t.Errorf("Less(%d, %d) = %d, %d", c.a, c.b, n, e)
		}
	}
}

// P3.1: Add and Less at all edges: ErrMoney of either, and of what comes of them, and 0 beside it.
func TestAddLessEdges(t *testing.T) {
	for _, a := range edges {
		for _, b := range edges {
			x, y := big.NewInt(a), big.NewInt(b)
			both := right(x) && right(y)
			n, e := purse.Add(a, b)
			check(t, "Add", a, b, n, e, new(big.Int).Add(x, y), both)
			n, e = purse.Less(a, b)
			check(t, "Less", a, b, n, e, new(big.Int).Sub(x, y), both)
		}
	}
}

func check(t *testing.T, name string, a, b, n int64, e api.Errno, want *big.Int, both bool) {
	t.Helper()
	if both && right(want) {
		if n != want.Int64() || e != api.OK {
			t.Errorf("%s(%d, %d) = %d, %d", name, a, b, n, e)
		}
	} else if n != 0 || e != api.ErrMoney {
		t.Errorf("%s(%d, %d) = %d, %d", name, a, b, n, e)
	}
}

// scaled is amount times part by whole, rounded down, by numbers of any length.
func scaled(amount, part, whole int64) int64 {
	n := new(big.Int).Mul(big.NewInt(amount), big.NewInt(part))
	return n.Quo(n, big.NewInt(whole)).Int64()
}

// P3.1: Part and Share, of ordinary amounts.
func TestPartShare(t *testing.T) {
	for _, c := range []struct{ amount, part, whole, a, b, left int64 }{
		{100, 1, 3, 33, 66, 1}, {100, 2, 3, 66, 33, 1}, {100, 0, 3, 0, 100, 0}, {100, 3, 3, 100, 0, 0},
		{100, 1, 2, 50, 50, 0}, {99, 1, 2, 49, 49, 1}, {0, 1, 3, 0, 0, 0}, {1, 1, 2, 0, 0, 1}, {7, 0, 1, 0, 7, 0}, {7, 1, 1, 7, 0, 0},
		{api.MaxMoney, 1, 1, api.MaxMoney, 0, 0}, {api.MaxMoney, 1, 3, 375299968947541, 750599937895082, 1},
		{api.MaxMoney, 1 << 62, 1<<62 + 1, api.MaxMoney - 1, 0, 1},
		{api.MaxMoney, math.MaxInt64, math.MaxInt64, api.MaxMoney, 0, 0},
	} {
		if n, e := purse.Part(c.amount, c.part, c.whole); n != c.a || e != api.OK {
			t.Errorf("Part(%d, %d, %d) = %d, %d", c.amount, c.part, c.whole, n, e)
		}
		if a, b, left, e := purse.Share(c.amount, c.part, c.whole); a != c.a || b != c.b || left != c.left || e != api.OK {
			t.Errorf("Share(%d, %d, %d) = %d, %d, %d, %d", c.amount, c.part, c.whole, a, b, left, e)
		}
	}
}

// P3.1: Part and Share at all edges, against numbers of any length: ErrMoney goes ahead of ErrArg, and 0 stands beside both.
func TestPartShareEdges(t *testing.T) {
	for _, amount := range edges {
		for _, part := range edges {
			for _, whole := range edges {
				checkShare(t, amount, part, whole)
			}
		}
	}
}

func checkShare(t *testing.T, amount, part, whole int64) {
	t.Helper()
	var want api.Errno
	switch {
	case amount < 0 || amount > api.MaxMoney:
		want = api.ErrMoney
	case whole < 1 || part < 0 || part > whole:
		want = api.ErrArg
	}
	n, e := purse.Part(amount, part, whole)
	a, b, left, f := purse.Share(amount, part, whole)
	if want != api.OK {
		if n != 0 || e != want {
			t.Errorf("Part(%d, %d, %d) = %d, %d", amount, part, whole, n, e)
		}
		if a != 0 || b != 0 || left != 0 || f != want {
			t.Errorf("Share(%d, %d, %d) = %d, %d, %d, %d", amount, part, whole, a, b, left, f)
		}
		return
	}
	if n != scaled(amount, part, whole) || e != api.OK {
		t.Errorf("Part(%d, %d, %d) = %d, %d", amount, part, whole, n, e)
	}
	if a != n || b != scaled(amount, whole-part, whole) || left != amount-a-b || left < 0 || left > 1 || f != api.OK {
		t.Errorf("Share(%d, %d, %d) = %d, %d, %d, %d", amount, part, whole, a, b, left, f)
	}
}

// P3.1: Part and Share of many numbers of all lengths, against numbers of any length.
func TestPartShareMany(t *testing.T) {
	r := rand.New(rand.NewSource(1))
	for range 200000 {
		whole := r.Int63()>>r.Intn(63) | 1
		checkShare(t, r.Int63n(api.MaxMoney+1)>>r.Intn(51), r.Int63n(whole), whole)
	}
}

// P3.2: Split, of ordinary amounts: the greater ones first.
func TestSplit(t *testing.T) {
	for _, c := range []struct {
		amount int64
		n      int
		want   []int64
	}{
		{11, 3, []int64{4, 4, 3}}, {10, 3, []int64{4, 3, 3}}, {9, 3, []int64{3, 3, 3}}, {2, 3, []int64{1, 1, 0}}, {0, 3, []int64{0, 0, 0}},
		{5, 1, []int64{5}}, {0, 1, []int64{0}}, {api.MaxMoney, 1, []int64{api.MaxMoney}}, {api.MaxMoney, 2, []int64{api.MaxMoney / 2, api.MaxMoney / 2}},
		{api.MaxMoney, 3, []int64{375299968947542, 375299968947541, 375299968947541}},
	} {
		if got, e := purse.Split(c.amount, c.n); !slices.Equal(got, c.want) || e != api.OK {
			t.Errorf("Split(%d, %d) = %v, %d", c.amount, c.n, got, e)
		}
	}
}

// P3.2: Split at all edges: ErrMoney goes ahead of ErrArg and ErrLong, and no list stands beside them.
func TestSplitEdges(t *testing.T) {
	for _, amount := range edges {
		for _, n := range []int{math.MinInt, -1, 0, 1, 2, 3, 7, 999, 1000, 1001, 1 << 20, math.MaxInt} {
			want := api.OK
			switch {
			case amount < 0 || amount > api.MaxMoney:
				want = api.ErrMoney
			case n < 1:
				want = api.ErrArg
			case n > 1000:
				want = api.ErrLong
			}
			got, e := purse.Split(amount, n)
			if e != want || want != api.OK && len(got) != 0 {
				t.Errorf("Split(%d, %d) = %v, %d", amount, n, got, e)
			}
			if want == api.OK {
				checkParts(t, amount, n, got)
			}
		}
	}
}

func checkParts(t *testing.T, amount int64, n int, parts []int64) {
	t.Helper()
	if len(parts) != n {
		t.Fatalf("Split(%d, %d): %d parts", amount, n, len(parts))
	}
	sum := int64(0)
	for i, p := range parts {
		sum += p
		if i > 0 && p > parts[i-1] || parts[0]-p > 1 {
			t.Errorf("Split(%d, %d): part %d is %d", amount, n, i, p)
		}
	}
	if sum != amount {
		t.Errorf("Split(%d, %d): together %d", amount, n, sum)
	}
}

// P2: the same arguments have the same answers, whatever was done with a list that was answered.
func TestAnswersDependOnArguments(t *testing.T) {
	first, _ := purse.Split(11, 3)
	second, _ := purse.Split(11, 3)
	_ = append(first[:0], 9, 9, 9, 9)
	if !slices.Equal(second, []int64{4, 4, 3}) {
		t.Errorf("a list was written over: %v", second)
	}
	purse.Share(-1, 9, 0)
	if again, _ := purse.Split(11, 3); !slices.Equal(again, second) {
		t.Errorf("%v, then %v", second, again)
	}
	if n, e := purse.Part(100, 1, 3); n != 33 || e != api.OK {
		t.Error(n, e)
	}
}
