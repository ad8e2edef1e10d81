package pack_test

import (
	"bytes"
	"math"
	"math/big"
	"math/rand"
	"slices"
	"testing"

	"paybook/api"
	"paybook/pack"
)

// edges are numbers about all the bounds that there are: of how many groups a number has, of what a byte and a word hold.
func edges() []int64 {
	l := []int64{
		math.MinInt64, math.MinInt64 + 1, -api.MaxMoney - 1, -api.MaxMoney, -100, -3, -2, -1,
		0, 1, 2, 3, 5, 100, api.MaxDay, api.MaxMoney, api.MaxMoney + 1, math.MaxInt64 - 1, math.MaxInt64,
	}
	for bit := range 63 {
		n := int64(1) << bit
		l = append(l, n-1, n, n+1, -n-1, -n, -n+1)
	}
	return l
}

// bytesOf is what a number becomes, by numbers of any length.
func bytesOf(n int64) []byte {
	u := new(big.Int).Mul(big.NewInt(n), big.NewInt(2))
	if n < 0 {
		u.Neg(u).Sub(u, big.NewInt(1))
	}
	var groups []byte
	group := new(big.Int)
	for len(groups) == 0 || u.Sign() > 0 {
		u.QuoRem(u, big.NewInt(64), group)
		groups = append(groups, byte(group.Int64()))
	}
	for i := range groups[:len(groups)-1] {
		groups[i] += 64
	}
	return groups
}

// numberOf is the number with which bytes begin, how many it has, and the first byte's fault, by numbers of any length: byte by byte it is asked whether any number begins so.
func numberOf(p []byte) (int64, int, api.Errno) {
	u := new(big.Int)
	for i, c := range p {
		group := new(big.Int).Lsh(big.NewInt(int64(c&63)), uint(6*i))
		u.Add(u, group)
		least := u // the least number that may come of it
		if c >= 64 {
			least = new(big.Int).Add(u, new(big.Int).Lsh(big.NewInt(1), uint(6*i+6)))
		}
		if c > 127 || c == 0 && i > 0 || least.BitLen() > 64 {
			return 0, 0, api.ErrForm
		}
		if c < 64 {
			n := new(big.Int).Rsh(u, 1)
			if u.Bit(0) == 1 {
				n.Neg(n).Sub(n, big.NewInt(1))
			}
			return n.Int64(), i + 1, api.OK
		}
	}
	return 0, 0, api.ErrShort
}

// get is what is to come of Get of a box of these bytes.
func get(p []byte, least, most int64) (int64, int, api.Errno) {
	n, size, e := numberOf(p)
	if e == api.OK && (n < least || n > most) {
		return 0, 0, api.ErrArg
	}
	return n, size, e
}

// getBytes is what is to come of GetBytes of a box of these bytes: the first of the faults that the chapter tells holds.
func getBytes(p []byte, most int) ([]byte, int, api.Errno) {
	n, size, e := get(p, 0, math.MaxInt64)
	switch {
	case e != api.OK:
		return nil, 0, e
	case n > int64(len(p)-size):
		return nil, 0, api.ErrShort
	case n > int64(most):
		return nil, 0, api.ErrLong
	}
	return p[size : size+int(n)], size + int(n), api.OK
}

func checkGet(t *testing.T, p []byte, least, most int64) {
	t.Helper()
	want, size, wantErr := get(p, least, most)
	b := pack.Of(p)
	if n := b.Get(least, most); n != want || b.Fault() != wantErr {
		t.Errorf("Get(%d, %d) of %x = %d, %d; asked for is %d, %d", least, most, p, n, b.Fault(), want, wantErr)
	}
	if wantErr == api.OK && (b.Left() != len(p)-size || !bytes.Equal(b.Done(), p[size:])) {
		t.Errorf("Get(%d, %d) of %x leaves %x", least, most, p, b.Done())
	}
}

func checkGetBytes(t *testing.T, p []byte, most int) {
	t.Helper()
	want, size, wantErr := getBytes(p, most)
	b := pack.Of(p)
	if got := b.GetBytes(most); !bytes.Equal(got, want) || b.Fault() != wantErr {
		t.Errorf("GetBytes(%d) of %x = %x, %d; asked for is %x, %d", most, p, got, b.Fault(), want, wantErr)
	}
	if wantErr == api.OK && (b.Left() != len(p)-size || !bytes.Equal(b.Done(), p[size:])) {
		t.Errorf("GetBytes(%d) of %x leaves %x", most, p, b.Done())
	}
}

func checkGetFlag(t *testing.T, p []byte) {
	t.Helper()
	want, _, wantErr := get(p, 0, 1)
	b := pack.Of(p)
	if on := b.GetFlag(); on != (want == 1) || b.Fault() != wantErr {
		t.Errorf("GetFlag of %x = %t, %d", p, on, b.Fault())
	}
}

// many is so many bytes of the same kind, and some behind them; tens is ten: all groups of a number but the topmost one.
func many(c byte, n int, behind ...byte) []byte {
	return append(bytes.Repeat([]byte{c}, n), behind...)
}

func tens(c byte, behind ...byte) []byte {
	return many(c, 10, behind...)
}

// P5.1: the bytes of ordinary numbers, told by hand.
func TestPutByHand(t *testing.T) {
	for _, c := range []struct {
		n    int64
		want []byte
	}{
		{0, []byte{0}}, {-1, []byte{1}}, {1, []byte{2}}, {-2, []byte{3}}, {5, []byte{0x0a}}, {31, []byte{62}}, {-32, []byte{63}},
		{32, []byte{64, 1}}, {-33, []byte{65, 1}}, {100, []byte{0x48, 3}}, {-100, []byte{0x47, 3}},
		{2047, []byte{126, 63}}, {-2048, []byte{127, 63}}, {2048, []byte{64, 64, 1}}, {-2049, []byte{65, 64, 1}},
		{1<<59 - 1, append([]byte{126}, many(127, 8, 63)...)}, {-1 << 59, many(127, 9, 63)}, {1 << 59, tens(64, 1)},
		{math.MaxInt64, append([]byte{126}, many(127, 9, 15)...)}, {math.MinInt64, tens(127, 15)},
	} {
		if got := pack.New().Put(c.n).Done(); !bytes.Equal(got, c.want) {
			t.Errorf("Put(%d) = %x; asked for is %x", c.n, got, c.want)
		}
	}
}

// P5.1: the example, and that so many numbers at once are as many one by one.
func TestPutSome(t *testing.T) {
	if got := pack.New().Put(5, -1, 100).Done(); !bytes.Equal(got, []byte{0x0a, 0x01, 0x48, 0x03}) {
		t.Errorf("%x", got)
	}
	if got := pack.New().Put(5).Put().Put(-1, 100).Done(); !bytes.Equal(got, []byte{0x0a, 0x01, 0x48, 0x03}) {
		t.Errorf("%x", got)
	}
	if b := pack.New().Put().Put([]int64{}...).Put(nil...); b == nil || b.Left() != 0 || len(b.Done()) != 0 {
		t.Error("no numbers aren't none")
	}
	l := edges()
	var want []byte
	one := pack.New()
	for _, n := range l {
		want = append(want, bytesOf(n)...)
		one.Put(n)
	}
	if got := pack.New().Put(l...).Done(); !bytes.Equal(got, want) || !bytes.Equal(one.Done(), want) {
		t.Errorf("%x, and one by one %x; asked for is %x", got, one.Done(), want)
	}
}

// P5.1, P5.2: numbers at all edges, and back.
func TestNumbers(t *testing.T) {
	l := edges()
	r := rand.New(rand.NewSource(5))
	for range 20000 {
		l = append(l, int64(r.Uint64())>>r.Intn(64))
	}
	for _, n := range l {
		p := pack.New().Put(n).Done()
		if want := bytesOf(n); !bytes.Equal(p, want) {
			t.Errorf("Put(%d) = %x; asked for is %x", n, p, want)
		}
		b := pack.Of(p)
		if m := b.Get(math.MinInt64, math.MaxInt64); m != n || b.End() != api.OK || b.Left() != 0 {
			t.Errorf("%d: Get of %x = %d, %d", n, p, m, b.End())
		}
		for size := range p {
			short := pack.Of(p[:size])
			if m := short.Get(math.MinInt64, math.MaxInt64); m != 0 || short.Fault() != api.ErrShort {
				t.Errorf("%d: Get of %x = %d, %d", n, p[:size], m, short.Fault())
			}
		}
	}
}

// P5.1: Flag, and P5.2: GetFlag.
func TestFlag(t *testing.T) {
	b := pack.New().Flag(true).Flag(false).Flag(true)
	if p := b.Done(); !bytes.Equal(p, []byte{2, 0, 2}) {
		t.Errorf("%x", p)
	}
	if !b.GetFlag() || b.GetFlag() || !b.GetFlag() || b.End() != api.OK {
		t.Error("the flags aren't as they were put:", b.Fault())
	}
	if b.GetFlag() || b.Fault() != api.ErrShort {
		t.Error("a flag of nothing:", b.Fault())
	}
	for c := range 256 {
		checkGetFlag(t, []byte{byte(c)})
		checkGetFlag(t, []byte{byte(c), 2})
	}
	checkGetFlag(t, []byte{0x42, 0})
}

// P5.1: Bytes, and P5.2: GetBytes.
func TestBytes(t *testing.T) {
	for _, size := range []int{0, 1, 2, 31, 32, 33, 2047, 2048, 5000, 1<<20 + 1} {
		p := bytes.Repeat([]byte{200, 0, 64}, size/3+1)[:size]
		b := pack.New().Bytes(p)
		if got := b.Done(); !bytes.Equal(got, append(bytesOf(int64(size)), p...)) {
			t.Errorf("%d bytes: %d, that begin with %x", size, len(got), got[:min(len(got), 20)])
		}
		if got := pack.Of(b.Done()).GetBytes(size); !bytes.Equal(got, p) {
			t.Errorf("%d bytes, and back: %d", size, len(got))
		}
		if got := b.GetBytes(math.MaxInt); !bytes.Equal(got, p) || b.End() != api.OK {
			t.Errorf("%d bytes, and back: %d, %d", size, len(got), b.End())
		}
	}
	if p := pack.New().Bytes([]byte("hi")).Bytes(nil).Bytes([]byte{0}).Done(); string(p) != "\x04hi\x00\x02\x00" {
		t.Errorf("%x", p)
	}
}

// P5.1, P5.2: each call answers the box itself; Done answers what is in it, or left, and takes nothing out; what is put behind is taken out last.
func TestBoxKeepsItsOrder(t *testing.T) {
	b := pack.New()
	if b.Put(7) != b || b.Flag(true) != b || b.Bytes([]byte("abc")) != b || b.Put() != b {
		t.Error("a call answers another box")
	}
	if string(b.Done()) != "\x0e\x02\x06abc" || string(b.Done()) != "\x0e\x02\x06abc" || b.Left() != 6 {
		t.Errorf("%x, %d", b.Done(), b.Left())
	}
	if b.Get(7, 7) != 7 || string(b.Done()) != "\x02\x06abc" || b.Left() != 5 || b.End() != api.ErrForm || b.Fault() != api.OK {
		t.Errorf("%x, %d, %d, %d", b.Done(), b.Left(), b.End(), b.Fault())
	}
	b.Put(-1)
	if !b.GetFlag() || string(b.GetBytes(3)) != "abc" || string(b.Done()) != "\x01" || b.Get(-1, -1) != -1 || b.End() != api.OK || len(b.Done()) != 0 {
		t.Error(b.Fault(), b.End())
	}
	if b.Put(9).Get(0, 9) != 9 || b.End() != api.OK {
		t.Error("a box that was emptied isn't to be filled again:", b.Fault())
	}
	if c := pack.Of([]byte{2}).Put(2); string(c.Done()) != "\x02\x04" || c.Get(0, 9) != 1 || c.Get(0, 9) != 2 || c.End() != api.OK {
		t.Error("of some bytes, and a number behind them:", c.Fault())
	}
}

// P5.2: Get at all the bounds of what is asked for.
func TestGetBounds(t *testing.T) {
	l := []int64{math.MinInt64, math.MinInt64 + 1, -101, -100, -2, -1, 0, 1, 2, 99, 100, math.MaxInt64 - 1, math.MaxInt64}
	for _, n := range l {
		p := append(bytesOf(n), 99)
		for _, least := range l {
			for _, most := range l {
				checkGet(t, p, least, most)
			}
		}
	}
}

// P5.2: the faults of a number, told by hand, whatever comes behind it; of several the one of the first byte at fault.
func TestGetFaults(t *testing.T) {
	for _, c := range []struct {
		p    []byte
		want api.Errno
	}{
		{nil, api.ErrShort}, {[]byte{64}, api.ErrShort}, {[]byte{127, 127}, api.ErrShort}, {tens(64), api.ErrShort}, {tens(127), api.ErrShort},
		{[]byte{128}, api.ErrForm}, {[]byte{255}, api.ErrForm}, {[]byte{64, 128}, api.ErrForm}, {[]byte{64, 192}, api.ErrForm}, {[]byte{128, 0}, api.ErrForm},
		{[]byte{64, 0}, api.ErrForm}, {[]byte{127, 0}, api.ErrForm}, {[]byte{64, 64, 0}, api.ErrForm}, {[]byte{64, 0, 128}, api.ErrForm},
		{tens(64, 0), api.ErrForm}, {tens(64, 16), api.ErrForm}, {tens(127, 16), api.ErrForm}, {tens(64, 63), api.ErrForm}, {tens(64, 128), api.ErrForm},
		{tens(64, 64), api.ErrForm}, {tens(64, 65), api.ErrForm}, {tens(64, 79), api.ErrForm}, {tens(64, 127), api.ErrForm},
		{tens(64, 64, 0), api.ErrForm}, {tens(64, 65, 1), api.ErrForm}, {tens(64, 64, 64, 64, 64), api.ErrForm},
		{bytes.Repeat([]byte{64}, 100), api.ErrForm}, {bytes.Repeat([]byte{127}, 1000), api.ErrForm},
		{tens(64, 1), api.OK}, {tens(64, 15), api.OK}, {tens(127, 15), api.OK}, {[]byte{0}, api.OK}, {[]byte{0, 128}, api.OK}, {[]byte{64, 1, 64}, api.OK}, {tens(64, 1, 128), api.OK},
	} {
		b := pack.Of(c.p)
		if n := b.Get(math.MinInt64, math.MaxInt64); b.Fault() != c.want || c.want != api.OK && n != 0 {
			t.Errorf("Get of %x = %d, %d; asked for is %d", c.p, n, b.Fault(), c.want)
		}
		// A number at fault isn't one of others than are asked for.
		if b = pack.Of(c.p); c.want != api.OK && (b.Get(1, 0) != 0 || b.Fault() != c.want) {
			t.Errorf("Get of %x, of none that are right: %d; asked for is %d", c.p, b.Fault(), c.want)
		}
	}
}

// P5.2: Get, GetFlag and GetBytes of all boxes of two bytes at most, and of some that go on.
func TestAllShortBoxes(t *testing.T) {
	check := func(p []byte) {
		checkGet(t, p, math.MinInt64, math.MaxInt64)
		checkGet(t, p, -1, 99)
		checkGetFlag(t, p)
		checkGetBytes(t, p, 1)
		checkGetBytes(t, p, 0)
	}
	check(nil)
	for c := range 256 {
		check([]byte{byte(c)})
		for d := range 256 {
			check([]byte{byte(c), byte(d)})
			check([]byte{byte(c), byte(d), 1, 200})
		}
		for _, marked := range []byte{64, 90, 127} {
			for n := 8; n <= 10; n++ {
				check(many(marked, n, byte(c)))
				check(many(marked, n, byte(c), 1))
			}
		}
	}
}

// P5.2: what Get takes is made by Put of it, to the byte: no number has two forms.
func TestOneForm(t *testing.T) {
	r := rand.New(rand.NewSource(6))
	for range 200000 {
		p := make([]byte, r.Intn(14))
		for i := range p {
			p[i] = byte(64 + r.Intn(64))
			if r.Intn(6) == 0 {
				p[i] = byte(r.Intn(20))
			}
		}
		checkGet(t, p, math.MinInt64, math.MaxInt64)
		b := pack.Of(p)
		if n := b.Get(math.MinInt64, math.MaxInt64); b.Fault() == api.OK {
			if q := pack.New().Put(n).Done(); !bytes.Equal(q, p[:len(p)-b.Left()]) {
				t.Errorf("Get takes %x for %d, of which Put makes %x", p[:len(p)-b.Left()], n, q)
			}
		}
	}
}

// P5.2: GetBytes, its faults, and which of several holds.
func TestGetBytesFaults(t *testing.T) {
	for _, c := range []struct {
		p    []byte
		most int
		want api.Errno
	}{
		{[]byte("\x06abc"), 3, api.OK}, {[]byte("\x06abcd"), 3, api.OK}, {[]byte("\x06abc"), math.MaxInt, api.OK}, {[]byte("\x00"), 0, api.OK},
		{[]byte("\x06abc"), 2, api.ErrLong}, {[]byte("\x06abcd"), 0, api.ErrLong}, {[]byte("\x06abc"), -1, api.ErrLong}, {[]byte("\x02a"), 0, api.ErrLong},
		{[]byte("\x00"), -1, api.ErrLong}, {[]byte("\x00"), math.MinInt, api.ErrLong},
		{[]byte("\x06ab"), 3, api.ErrShort}, {[]byte("\x06"), 3, api.ErrShort}, {nil, 3, api.ErrShort}, {[]byte{64}, 3, api.ErrShort}, {nil, -1, api.ErrShort},
		{[]byte("\x06ab"), 2, api.ErrShort}, {[]byte("\x06ab"), 0, api.ErrShort}, {[]byte("\x06ab"), -1, api.ErrShort},
		{bytesOf(math.MaxInt64), math.MaxInt, api.ErrShort}, {bytesOf(math.MaxInt64), 5, api.ErrShort}, {append(bytesOf(1<<32+1), 'a', 'b'), 5, api.ErrShort},
		{[]byte{128}, 3, api.ErrForm}, {[]byte{64, 0}, 3, api.ErrForm}, {tens(64, 16), 3, api.ErrForm}, {[]byte{128}, -1, api.ErrForm},
		{[]byte{1}, 3, api.ErrArg}, {[]byte("\x01abc"), 3, api.ErrArg}, {[]byte("\x05abc"), 3, api.ErrArg}, {bytesOf(math.MinInt64), 3, api.ErrArg}, {[]byte{1}, -1, api.ErrArg},
	} {
		b := pack.Of(c.p)
		if p := b.GetBytes(c.most); b.Fault() != c.want || c.want != api.OK && len(p) != 0 {
			t.Errorf("GetBytes(%d) of %x = %x, %d; asked for is %d", c.most, c.p, p, b.Fault(), c.want)
		}
		checkGetBytes(t, c.p, c.most)
	}
}

// P5.2: the first fault stays, and none that is asked for behind it is answered, though it is there.
func TestFirstFaultStays(t *testing.T) {
	faults := map[api.Errno]func() *pack.Box{
		api.ErrShort: func() *pack.Box { b := pack.New(); b.Get(0, 9); return b },
		api.ErrForm:  func() *pack.Box { b := pack.Of([]byte{128, 2, 2, 2, 2}); b.Get(0, 9); return b },
		api.ErrArg:   func() *pack.Box { b := pack.New().Put(10, 1, 1, 1, 1); b.Get(0, 9); return b },
		api.ErrLong:  func() *pack.Box { b := pack.New().Bytes([]byte("abc")).Put(1, 1, 1, 1); b.GetBytes(2); return b },
	}
	for want, faulty := range faults {
		b := faulty()
		if b.Fault() != want || b.End() != want {
			t.Errorf("%d, %d; asked for is %d", b.Fault(), b.End(), want)
		}
		if b.Put(1).Flag(true).Bytes([]byte{1}) != b {
			t.Error("behind a fault a call answers another box")
		}
		for range 4 {
			if n, on, p := b.Get(math.MinInt64, math.MaxInt64), b.GetFlag(), b.GetBytes(math.MaxInt); n != 0 || on || len(p) != 0 {
				t.Errorf("behind %d: %d, %t, %x", want, n, on, p)
			}
			b.Get(1, 0)
			if b.Fault() != want || b.End() != want {
				t.Errorf("%d, %d; asked for is %d", b.Fault(), b.End(), want)
			}
		}
		if b.Left() != len(b.Done()) {
			t.Errorf("behind %d: %d bytes are left, and %d told", want, b.Left(), len(b.Done()))
		}
	}
}

// P5.2: End tells of what is left, and is no fault.
func TestEnd(t *testing.T) {
	if e := pack.New().End(); e != api.OK {
		t.Error(e)
	}
	b := pack.New().Put(1, 2)
	for left := 2; left > 0; left-- {
		if b.End() != api.ErrForm || b.Fault() != api.OK || b.Left() != left {
			t.Error(left, b.End(), b.Fault(), b.Left())
		}
		if b.Get(0, 9) != int64(3-left) {
			t.Error(left, b.Fault())
		}
	}
	if b.End() != api.OK || b.Left() != 0 {
		t.Error(b.End(), b.Left())
	}
}

// P5.2: of a nil Box.
func TestNilBox(t *testing.T) {
	var b *pack.Box
	if b.Put(1, 2) != nil || b.Put() != nil || b.Flag(true) != nil || b.Flag(false) != nil || b.Bytes([]byte("a")) != nil || b.Bytes(nil) != nil {
		t.Error("a nil Box is put into")
	}
	if len(b.Done()) != 0 || b.Get(math.MinInt64, math.MaxInt64) != 0 || b.Get(5, 9) != 0 || b.GetFlag() || len(b.GetBytes(9)) != 0 || b.Left() != 0 {
		t.Error("a nil Box has something")
	}
	if b.Fault() != api.ErrNone || b.End() != api.ErrNone {
		t.Error(b.Fault(), b.End())
	}
}

// P5.1: nil and empty bytes are the same.
func TestOfNone(t *testing.T) {
	for _, p := range [][]byte{nil, {}} {
		if b := pack.Of(p); b == nil || b.Left() != 0 || len(b.Done()) != 0 || b.End() != api.OK || b.GetFlag() || b.Fault() != api.ErrShort {
			t.Errorf("a box of %v isn't empty", p)
		}
		if q := pack.New().Bytes(p).Done(); !bytes.Equal(q, []byte{0}) {
			t.Errorf("Bytes(%v) = %x", p, q)
		}
	}
}

// What was handed in, and told, may be written over, and appended to: a box isn't another one by that. Nor does it write over that itself.
func TestMemory(t *testing.T) {
	in := []byte("\x06abc\x06def\x06ghi")
	b := pack.Of(in)
	clear(in)
	if string(b.Done()) != "\x06abc\x06def\x06ghi" {
		t.Errorf("what was handed in is the box's: %q", b.Done())
	}
	first := b.GetBytes(9)
	_ = append(first, "XXXX"...)
	copy(first, "YYY")
	told := b.Done()
	_ = append(told[:4], "ZZZ"...)
	if string(b.Done()) != "\x06def\x06ghi" {
		t.Errorf("what was told is the box's: %q", b.Done())
	}
	kept, second := b.Done(), b.GetBytes(9)
	b.Bytes([]byte("jkl")).Put(1, 2, 3)
	clear(told)
	if string(kept) != "\x06def\x06ghi" || string(second) != "def" || string(b.GetBytes(9)) != "ghi" || string(b.GetBytes(9)) != "jkl" {
		t.Errorf("%q, %q", kept, second)
	}
	numbers, some := []int64{1, 100}, []byte("hi")
	c := pack.New().Put(numbers...).Bytes(some)
	if !slices.Equal(numbers, []int64{1, 100}) || string(some) != "hi" {
		t.Error("what is handed in is changed:", numbers, some)
	}
	clear(numbers)
	clear(some)
	if string(c.Done()) != "\x02\x48\x03\x04hi" {
		t.Errorf("%x", c.Done())
	}
}

// item is what a box is told to hold.
type item struct {
	kind byte
	n    int64
	on   bool
	p    []byte
}

func (i item) put(b *pack.Box) {
	switch i.kind {
	case 0:
		b.Put(i.n)
	case 1:
		b.Flag(i.on)
	default:
		b.Bytes(i.p)
	}
}

func (i item) isNext(b *pack.Box) bool {
	switch i.kind {
	case 0:
		return b.Get(i.n, i.n) == i.n
	case 1:
		return b.GetFlag() == i.on
	}
	return bytes.Equal(b.GetBytes(len(i.p)), i.p)
}

// P5.1, P5.2, P2: many things are put and taken out in turn, and come out as they went in, whatever another box is told meanwhile.
func TestManyInTurn(t *testing.T) {
	r := rand.New(rand.NewSource(7))
	for range 300 {
		b, other := pack.New(), pack.New()
		var in []item
		for range 200 {
			if r.Intn(3) > 0 || len(in) == 0 {
				p := make([]byte, r.Intn(40))
				r.Read(p)
				i := item{byte(r.Intn(3)), int64(r.Uint64()) >> r.Intn(64), r.Intn(2) == 1, p}
				in = append(in, i)
				i.put(b)
				other.Put(-i.n).Flag(!i.on)
				continue
			}
			if !in[0].isNext(b) || b.Fault() != api.OK {
				t.Fatalf("%v isn't next: %d", in[0], b.Fault())
			}
			in = in[1:]
		}
		again := pack.Of(b.Done())
		for _, i := range in {
			if !i.isNext(b) || !i.isNext(again) {
				t.Fatalf("%v isn't next: %d, %d", i, b.Fault(), again.Fault())
			}
		}
		if b.End() != api.OK || again.End() != api.OK {
			t.Fatal(b.End(), again.End())
		}
	}
}

// P1: no call panics, whatever bytes a box has and whatever it is asked. P2: asked again, an equal one answers the same.
func TestNonePanics(t *testing.T) {
	r := rand.New(rand.NewSource(8))
	for range 50000 {
		p := make([]byte, r.Intn(30))
		r.Read(p)
		for i := range p {
			p[i] >>= r.Intn(8)
		}
		one, two := pack.Of(p), pack.Of(p)
		for range 8 {
			least, most := int64(r.Uint64())>>r.Intn(64), int64(r.Uint64())>>r.Intn(64)
			switch r.Intn(4) {
			case 0:
				if one.Get(least, most) != two.Get(least, most) {
					t.Fatalf("%x: Get(%d, %d)", p, least, most)
				}
			case 1:
				if one.GetFlag() != two.GetFlag() {
					t.Fatalf("%x: GetFlag", p)
				}
			case 2:
				if !bytes.Equal(one.GetBytes(int(most)), two.GetBytes(int(most))) {
					t.Fatalf("%x: GetBytes(%d)", p, most)
				}
			default:
				one.Put(least, most)
				two.Put(least, most)
			}
			if one.Fault() != two.Fault() || one.End() != two.End() || one.Left() != two.Left() || !bytes.Equal(one.Done(), two.Done()) {
				t.Fatalf("%x: two equal boxes answer otherwise", p)
			}
		}
	}
	zero := &pack.Box{}
	zero.Put(1).Flag(true).Bytes([]byte("a"))
	zero.Get(0, 9)
	zero.GetFlag()
	zero.GetBytes(9)
	zero.End()
}
