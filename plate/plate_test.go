package plate_test

import (
	"bytes"
	"math"
	"math/rand"
	"strings"
	"testing"

	"paybook/api"
	"paybook/plate"
)

// whole is what a sector has that was written with these bytes.
func whole(b string) string {
	return b + strings.Repeat("\x00", 64-len(b))
}

// checkErr: a call has answered that.
func checkErr(t *testing.T, what string, e, want api.Errno) {
	t.Helper()
	if e != want {
		t.Errorf("%s: %d; asked for is %d", what, e, want)
	}
}

// checkRead: a plate that is on has these bytes in a sector, and noughts behind them.
func checkRead(t *testing.T, p *plate.Plate, at int, want string) {
	t.Helper()
	if b, e := p.Read(at); string(b) != whole(want) || e != api.OK {
		t.Errorf("Read(%d) = %q, %d; asked for is %q", at, b, e, want)
	}
}

// checkFault: Read answers that, and nothing beside it.
func checkFault(t *testing.T, p *plate.Plate, at int, want api.Errno) {
	t.Helper()
	if b, e := p.Read(at); len(b) != 0 || e != want {
		t.Errorf("Read(%d) = %q, %d; asked for is %d", at, b, e, want)
	}
}

// checkCounts: so many acts were done, so many writes aren't safe, and it is on or not.
func checkCounts(t *testing.T, p *plate.Plate, acts, wet int, on bool) {
	t.Helper()
	if p.Acts() != acts || p.Wet() != wet || p.On() != on {
		t.Errorf("Acts %d, Wet %d, On %t; asked for is %d, %d, %t", p.Acts(), p.Wet(), p.On(), acts, wet, on)
	}
}

// filled is a plate with these in its first sectors, all safe; its acts are one more than they.
func filled(t *testing.T, sectors ...string) *plate.Plate {
	t.Helper()
	p := plate.New(len(sectors))
	for at, b := range sectors {
		checkErr(t, "Write", p.Write(at, []byte(b)), api.OK)
	}
	checkErr(t, "Flush", p.Flush(), api.OK)
	return p
}

// checkSafe: a plate's sectors, as they are safe, are these.
func checkSafe(t *testing.T, p *plate.Plate, sectors ...string) {
	t.Helper()
	if q := filled(t, sectors...); !plate.Same(p, q) || !plate.Same(q, p) {
		t.Errorf("its sectors aren't %q", sectors)
	}
}

// P7.1: sectors of 64 bytes, all noughts, as they are safe; none below 0.
func TestNew(t *testing.T) {
	if plate.Sector != 64 {
		t.Errorf("a sector has %d bytes", plate.Sector)
	}
	for _, c := range [][2]int{{0, 0}, {1, 1}, {2, 2}, {100, 100}, {-1, 0}, {-64, 0}, {math.MinInt, 0}} {
		p := plate.New(c[0])
		if p.Size() != c[1] {
			t.Errorf("New(%d) has %d sectors; asked for are %d", c[0], p.Size(), c[1])
		}
		checkCounts(t, p, 0, 0, true)
		for at := range c[1] {
			checkRead(t, p, at, "")
		}
		checkFault(t, p, c[1], api.ErrArg)
		checkFault(t, p, -1, api.ErrArg)
	}
}

// P7.1: Write: the bytes, and noughts behind them, whatever was there; Read has them ahead of Flush and behind it.
func TestWrite(t *testing.T) {
	p := plate.New(3)
	long := strings.Repeat("long", 16)
	acts := 0
	for _, b := range []string{"abc", long, "a", "", long[:63], "\x00\x00b", "z"} {
		checkErr(t, "Write", p.Write(1, []byte(b)), api.OK)
		checkRead(t, p, 1, b)
		acts++
		checkCounts(t, p, acts, 1, true)
		checkErr(t, "Flush", p.Flush(), api.OK)
		acts++
		checkRead(t, p, 1, b)
		checkCounts(t, p, acts, 0, true)
		checkRead(t, p, 0, "")
		checkRead(t, p, 2, "")
	}
}

// P7.1: of every size up to 64 bytes; ErrArg: of more, which changes nothing.
func TestWriteSizes(t *testing.T) {
	for size := range 200 {
		p := filled(t, strings.Repeat("x", 64))
		b := bytes.Repeat([]byte("n"), size)
		if size <= 64 {
			checkErr(t, "Write", p.Write(0, b), api.OK)
			checkRead(t, p, 0, string(b))
			continue
		}
		checkErr(t, "Write", p.Write(0, b), api.ErrArg)
		checkRead(t, p, 0, strings.Repeat("x", 64))
		checkCounts(t, p, 2, 0, true)
	}
}

// P7.1: ErrArg: there is no such sector; nothing has changed.
func TestNoSuchSector(t *testing.T) {
	p := filled(t, "one", "two", "three")
	for _, at := range []int{3, 4, -1, -2, math.MaxInt, math.MinInt, math.MaxInt32} {
		for _, b := range [][]byte{nil, {}, []byte("no"), make([]byte, 64), make([]byte, 65)} {
			checkErr(t, "Write", p.Write(at, b), api.ErrArg)
		}
		checkFault(t, p, at, api.ErrArg)
	}
	checkCounts(t, p, 4, 0, true)
	checkSafe(t, p, "one", "two", "three")
	for at, want := range []string{"one", "two", "three"} {
		checkRead(t, p, at, want)
	}
	checkErr(t, "Write", plate.New(0).Write(0, nil), api.ErrArg)
}

// P7.1: nil and empty bytes are the same: noughts alone.
func TestWriteNone(t *testing.T) {
	for _, b := range [][]byte{nil, {}} {
		p := filled(t, "full")
		checkErr(t, "Write", p.Write(0, b), api.OK)
		checkRead(t, p, 0, "")
		checkCounts(t, p, 3, 1, true)
		checkErr(t, "Flush", p.Flush(), api.OK)
		checkSafe(t, p, "")
	}
}

// P7.1: the example: what isn't Flushed isn't there behind a Fall, what is Flushed is.
func TestExample(t *testing.T) {
	p := plate.New(1)
	p.Write(0, []byte("hi"))
	p.Fall(0)
	checkRead(t, p, 0, "")
	p.Write(0, []byte("hi"))
	p.Flush()
	p.Fall(0)
	checkRead(t, p, 0, "hi")
}

// P7.1: a Flush makes all writes safe, how many there are, and does nothing but be counted where there are none.
func TestFlush(t *testing.T) {
	p := plate.New(4)
	checkErr(t, "Flush", p.Flush(), api.OK)
	checkCounts(t, p, 1, 0, true)
	for i, b := range []string{"a", "b", "c", "d", "e", "f"} {
		checkErr(t, "Write", p.Write(i%3, []byte(b)), api.OK)
		checkCounts(t, p, 2+i, 1+i, true)
		checkSafe(t, p, "", "", "", "")
	}
	checkErr(t, "Flush", p.Flush(), api.OK)
	checkCounts(t, p, 8, 0, true)
	checkSafe(t, p, "d", "e", "f", "")
	p.Fall(0)
	checkCounts(t, p, 8, 0, true)
	for at, want := range []string{"d", "e", "f", ""} {
		checkRead(t, p, at, want)
	}
}

// P7.2: Fall: of the writes that aren't safe the first so many are: of below 0 none, of more than there are all; of a sector's writes the last one among them.
func TestFallKeep(t *testing.T) {
	rows := [][]string{
		{"old", "", "was"}, {"one", "", "was"}, {"one", "two", "was"}, {"three", "two", "was"}, {"three", "two", ""}, {"", "two", ""}, {"", "two", "six"},
	}
	for keep := -3; keep < 10; keep++ {
		p := filled(t, "old", "", "was")
		for _, w := range []struct {
			at int
			b  string
		}{{0, "one"}, {1, "two"}, {0, "three"}, {2, ""}, {0, ""}, {2, "six"}} {
			checkErr(t, "Write", p.Write(w.at, []byte(w.b)), api.OK)
		}
		checkRead(t, p, 2, "six")
		checkCounts(t, p, 10, 6, true)
		checkSafe(t, p, rows[0]...)
		p.Fall(keep)
		want := rows[min(max(keep, 0), 6)]
		checkCounts(t, p, 10, 0, true)
		checkSafe(t, p, want...)
		for at, b := range want {
			checkRead(t, p, at, b)
		}
		p.Fall(9)
		checkSafe(t, p, want...)
	}
	for _, keep := range []int{math.MinInt, math.MaxInt} {
		p := filled(t, "old")
		p.Write(0, []byte("new"))
		p.Fall(keep)
		if keep > 0 {
			checkRead(t, p, 0, "new")
		} else {
			checkRead(t, p, 0, "old")
		}
	}
}

// P7.2: Arm: so many Writes and Flushes go well, and no more; what is refused by ErrArg, and Reads, aren't among them.
func TestArmActs(t *testing.T) {
	for acts := range 12 {
		p := plate.New(2)
		p.Write(1, []byte("ahead"))
		p.Arm(acts, 0)
		for i := range acts {
			checkErr(t, "Write", p.Write(2, []byte("no")), api.ErrArg)
			checkErr(t, "Write", p.Write(0, make([]byte, 65)), api.ErrArg)
			checkRead(t, p, 1, "ahead")
			if i%3 == 2 {
				checkErr(t, "Flush", p.Flush(), api.OK)
			} else {
				checkErr(t, "Write", p.Write(0, []byte{'a' + byte(i)}), api.OK)
			}
		}
		wet := p.Wet()
		checkErr(t, "Write", p.Write(2, nil), api.ErrArg)
		checkRead(t, p, 1, "ahead")
		checkCounts(t, p, 1+acts, wet, true)
		if acts%2 == 0 {
			checkErr(t, "Write", p.Write(0, []byte("stop")), api.ErrStop)
		} else {
			checkErr(t, "Flush", p.Flush(), api.ErrStop)
		}
		checkCounts(t, p, 1+acts, wet, false)
	}
}

// P7.2: below 0 it never stops, and is armed no more; Arm anew counts from then on.
func TestArmNever(t *testing.T) {
	for _, never := range []int{-1, -2, math.MinInt} {
		p := plate.New(1)
		p.Arm(1, 3)
		p.Arm(never, 3)
		for i := range 300 {
			checkErr(t, "Write", p.Write(0, []byte{byte(i)}), api.OK)
			checkErr(t, "Flush", p.Flush(), api.OK)
		}
		checkCounts(t, p, 600, 0, true)
	}
	p := plate.New(1)
	p.Arm(3, 1)
	p.Write(0, []byte("a"))
	p.Write(0, []byte("b"))
	p.Arm(2, 2)
	checkErr(t, "Write", p.Write(0, []byte("c")), api.OK)
	checkErr(t, "Flush", p.Flush(), api.OK)
	checkErr(t, "Write", p.Write(0, []byte("xyz")), api.ErrStop)
	p.Fall(1)
	checkRead(t, p, 0, "xy")
	p.Arm(math.MaxInt, math.MaxInt)
	checkErr(t, "Write", p.Write(0, []byte("d")), api.OK)
	checkCounts(t, p, 5, 1, true)
}

// P7.2: the Write at which it stops is there with its first spare bytes, of its noughts too, and behind them what was there; of none it isn't there.
func TestSpare(t *testing.T) {
	was := "was there and is as long as a whole sector of sixty-four bytes.."
	if len(was) != 64 {
		t.Fatal(len(was))
	}
	for _, b := range []string{"", "n", "new", "newer and as long as all of a sector that has sixty-four bytes, ."} {
		b = b[:min(len(b), 64)]
		for spare := -2; spare < 68; spare++ {
			for _, wet := range []bool{false, true} {
				p := filled(t, "", was)
				if wet {
					p = filled(t, "", "not this one")
					p.Write(1, []byte(was))
				}
				ahead := p.Wet()
				p.Arm(0, spare)
				checkErr(t, "Write", p.Write(1, []byte(b)), api.ErrStop)
				torn := min(max(spare, 0), 64)
				count := ahead
				if torn > 0 {
					count++
				}
				checkCounts(t, p, 3+ahead, count, false)
				if wet {
					checkSafe(t, p, "", "not this one")
				} else {
					checkSafe(t, p, "", was)
				}
				p.Fall(count)
				checkRead(t, p, 1, whole(b)[:torn]+was[torn:])
				checkRead(t, p, 0, "")
				checkCounts(t, p, 3+ahead, 0, true)
			}
		}
	}
	for _, spare := range []int{math.MinInt, math.MaxInt} {
		p := filled(t, was)
		p.Arm(0, spare)
		p.Write(0, []byte("new"))
		p.Fall(1)
		if spare > 0 {
			checkRead(t, p, 0, "new")
		} else {
			checkRead(t, p, 0, was)
		}
	}
}

// P7.2: the Write at which it stops is one of those that aren't safe: a Fall that keeps fewer hasn't it.
func TestSpareIsWet(t *testing.T) {
	for keep, want := range []string{"was", "one", "one", "XYe"} {
		p := filled(t, "was", "")
		p.Arm(2, 2)
		p.Write(0, []byte("one"))
		p.Write(1, []byte("two"))
		checkErr(t, "Write", p.Write(0, []byte("XYZ")), api.ErrStop)
		checkCounts(t, p, 5, 3, false)
		p.Fall(keep)
		checkRead(t, p, 0, want)
	}
}

// P7.2: a Flush at which it stops does nothing, whatever is spared.
func TestFlushStops(t *testing.T) {
	for keep, want := range []string{"was", "one", "two", "two"} {
		p := filled(t, "was")
		p.Arm(2, 64)
		p.Write(0, []byte("one"))
		p.Write(0, []byte("two"))
		checkErr(t, "Flush", p.Flush(), api.ErrStop)
		checkCounts(t, p, 4, 2, false)
		checkSafe(t, p, "was")
		p.Fall(keep)
		checkRead(t, p, 0, want)
		checkSafe(t, p, want)
	}
}

// P7.1, P7.2: once it has stopped all is ErrStop (but a Write's ErrArg comes ahead of that, a Read's behind it), and nothing changes till a Fall.
func TestStopped(t *testing.T) {
	p := filled(t, "was", "")
	p.Arm(1, 1)
	p.Write(1, []byte("wet"))
	checkErr(t, "Write", p.Write(0, []byte("new")), api.ErrStop)
	for range 3 {
		checkErr(t, "Write", p.Write(0, []byte("more")), api.ErrStop)
		checkErr(t, "Write", p.Write(1, nil), api.ErrStop)
		checkErr(t, "Write", p.Write(2, nil), api.ErrArg)
		checkErr(t, "Write", p.Write(-1, nil), api.ErrArg)
		checkErr(t, "Write", p.Write(0, make([]byte, 65)), api.ErrArg)
		checkErr(t, "Flush", p.Flush(), api.ErrStop)
		for _, at := range []int{0, 1, 2, -1, math.MaxInt} {
			checkFault(t, p, at, api.ErrStop)
		}
		checkCounts(t, p, 4, 2, false)
		checkSafe(t, p, "was", "")
		if p.Size() != 2 {
			t.Errorf("Size is %d", p.Size())
		}
		p.Arm(5, 7)
		p.Arm(-1, 0)
	}
	p.Fall(2)
	checkRead(t, p, 0, "nas")
	checkRead(t, p, 1, "wet")
	checkCounts(t, p, 4, 0, true)
}

// P7.2: a Fall, whether it has stopped or not: it is On, and isn't armed, not even by an Arm behind the stop.
func TestFallDisarms(t *testing.T) {
	for _, stopped := range []bool{false, true} {
		p := plate.New(1)
		p.Arm(2, 64)
		p.Write(0, []byte("a"))
		if stopped {
			p.Arm(0, 64)
			checkErr(t, "Flush", p.Flush(), api.ErrStop)
			p.Arm(0, 64)
		}
		p.Fall(0)
		for range 100 {
			checkErr(t, "Write", p.Write(0, []byte("b")), api.OK)
			checkErr(t, "Flush", p.Flush(), api.OK)
		}
		checkCounts(t, p, 201, 0, true)
		checkSafe(t, p, "b")
		p.Arm(0, 0)
		checkErr(t, "Write", p.Write(0, []byte("c")), api.ErrStop)
		checkCounts(t, p, 201, 0, false)
	}
}

// P7.2: Same: the same sectors, as they are safe; how it came to that, whether it is on and what isn't safe is nothing to it.
func TestSame(t *testing.T) {
	same := func(a, b *plate.Plate, want bool) {
		t.Helper()
		if plate.Same(a, b) != want || plate.Same(b, a) != want || !plate.Same(a, a) || !plate.Same(b, b) {
			t.Errorf("Same is %t, %t; asked for is %t", plate.Same(a, b), plate.Same(b, a), want)
		}
	}
	for size := range 5 {
		for other := range 5 {
			same(plate.New(size), plate.New(other), size == other)
		}
	}
	a, b := filled(t, "one", "", "three"), filled(t, "three", "two", "one")
	same(a, b, false)
	for at, s := range []string{"one", "", "three"} {
		same(a, b, false)
		b.Write(at, []byte(s))
	}
	same(a, b, false)
	b.Flush()
	same(a, b, true)
	b.Write(0, []byte("wet"))
	same(a, b, true)
	b.Arm(0, 64)
	b.Flush()
	same(a, b, true)
	b.Fall(1)
	same(a, b, false)
	same(filled(t, "one", ""), filled(t, "one"), false)
	for at := range 64 {
		s := []byte(strings.Repeat("s", 64))
		s[at]++
		same(filled(t, "", strings.Repeat("s", 64), ""), filled(t, "", string(s), ""), false)
	}
	for at := range 9 {
		l := make([]string, 9)
		l[at] = "\x01"
		same(plate.New(9), filled(t, l...), false)
	}
	same(plate.New(4), filled(t, "", "", "", ""), true)
	low, high := plate.New(3), plate.New(3)
	high.Write(2, []byte("high"))
	for _, p := range []*plate.Plate{low, high} {
		p.Write(0, []byte("low"))
		p.Flush()
	}
	same(low, high, false)
	same(high, filled(t, "low", "", "high"), true)
}

// P7.2: a nil Plate.
func TestNil(t *testing.T) {
	var p *plate.Plate
	for _, at := range []int{-1, 0, 1, math.MaxInt} {
		checkErr(t, "Write", p.Write(at, []byte("hi")), api.ErrArg)
		checkErr(t, "Write", p.Write(at, make([]byte, 65)), api.ErrArg)
		checkFault(t, p, at, api.ErrStop)
	}
	checkErr(t, "Flush", p.Flush(), api.ErrStop)
	p.Arm(1, 2)
	p.Arm(-1, -1)
	p.Fall(3)
	p.Fall(-1)
	checkCounts(t, p, 0, 0, false)
	if p.Size() != 0 {
		t.Errorf("Size is %d", p.Size())
	}
	for _, c := range []struct {
		name string
		a, b *plate.Plate
		want bool
	}{
		{"two nil ones", nil, nil, true},
		{"two without sectors", plate.New(0), plate.New(-7), true},
		{"a nil one and one without sectors", nil, plate.New(0), true},
		{"a nil one and one with a sector", nil, plate.New(1), false},
	} {
		if plate.Same(c.a, c.b) != c.want || plate.Same(c.b, c.a) != c.want {
			t.Errorf("%s: Same isn't %t", c.name, c.want)
		}
	}
}

// What is handed in isn't changed, and may be written over; so may what is answered, and be appended to.
func TestMemory(t *testing.T) {
	p := plate.New(2)
	room := []byte("hello, and what stands behind it")
	p.Write(0, room[:5])
	if string(room) != "hello, and what stands behind it" {
		t.Errorf("what is handed in to Write is changed: %q", room)
	}
	clear(room)
	checkRead(t, p, 0, "hello")
	full := bytes.Repeat([]byte("f"), 64)
	p.Write(1, full)
	full[0] = 'X'
	for range 2 {
		one, _ := p.Read(0)
		two, _ := p.Read(0)
		_ = append(one, "more"...)
		clear(one)
		if string(two) != whole("hello") {
			t.Errorf("another Read's bytes: %q", two)
		}
		checkRead(t, p, 0, "hello")
		checkRead(t, p, 1, strings.Repeat("f", 64))
		p.Flush()
	}
	kept, _ := p.Read(1)
	p.Arm(0, 9)
	p.Write(1, []byte("torn"))
	p.Fall(1)
	if string(kept) != strings.Repeat("f", 64) {
		t.Errorf("what was read is another: %q", kept)
	}
}

// P2: what one plate is told is nothing to another.
func TestApart(t *testing.T) {
	a, b := plate.New(1), plate.New(1)
	a.Write(0, []byte("a"))
	a.Arm(0, 1)
	a.Flush()
	checkCounts(t, b, 0, 0, true)
	checkRead(t, b, 0, "")
	a.Fall(1)
	checkRead(t, b, 0, "")
	checkErr(t, "Write", b.Write(0, []byte("b")), api.OK)
	checkRead(t, a, 0, "a")
}

// P1: plates of any size are made, and their sectors are there.
func TestManySectors(t *testing.T) {
	for _, n := range []int{1 << 20, math.MaxInt32, math.MaxInt} {
		p, q := plate.New(n), plate.New(n)
		if p.Size() != n || !plate.Same(p, q) {
			t.Errorf("New(%d): %d", n, p.Size())
		}
		checkErr(t, "Write", p.Write(7, []byte("seven")), api.OK)
		checkErr(t, "Flush", p.Flush(), api.OK)
		if plate.Same(p, q) || plate.Same(q, p) {
			t.Errorf("New(%d): Same", n)
		}
		checkErr(t, "Write", p.Write(n-1, []byte("last")), api.OK)
		checkRead(t, p, n-1, "last")
		checkErr(t, "Flush", p.Flush(), api.OK)
		checkRead(t, p, n-1, "last")
		checkRead(t, p, n-2, "")
		checkRead(t, p, 7, "seven")
		checkFault(t, p, n, api.ErrArg)
		checkErr(t, "Write", p.Write(n, nil), api.ErrArg)
	}
}

// P1: writes by the hundred thousand that aren't safe, each read again at once, end soon.
func TestManyWrites(t *testing.T) {
	const n = 200000
	p := plate.New(1000)
	for i := range n {
		p.Write(i%1000, []byte{byte(i), byte(i >> 8), byte(i >> 16)})
		if b, e := p.Read((i + 1) % 1000); i >= 1000 && b[0] != byte(i-999) || e != api.OK {
			t.Fatalf("%d: %v, %d", i, b, e)
		}
	}
	checkCounts(t, p, n, n, true)
	p.Fall(n - 500)
	for at := range 1000 {
		i := n - 1000 + at
		if at >= 500 {
			i -= 1000
		}
		checkRead(t, p, at, string([]byte{byte(i), byte(i >> 8), byte(i >> 16)}))
	}
}

// slow is a plate as the chapter tells it, without any shorter way.
type slow struct {
	safe        [][64]byte
	wet         []slowWrite
	left, spare int // left below 0: it isn't armed
	acts        int
	off         bool
}

type slowWrite struct {
	at  int
	has [64]byte
}

func (p *slow) now(at int) [64]byte {
	has := p.safe[at]
	for _, w := range p.wet {
		if w.at == at {
			has = w.has
		}
	}
	return has
}

// goesWell: it has not stopped, and doesn't at this act.
func (p *slow) goesWell() bool {
	if p.off || p.left == 0 {
		p.off = true
		return false
	}
	p.left = max(p.left-1, -1)
	p.acts++
	return true
}

func (p *slow) write(at int, b []byte) api.Errno {
	if at < 0 || at >= len(p.safe) || len(b) > 64 {
		return api.ErrArg
	}
	was, stopped := p.now(at), p.off
	has := [64]byte([]byte(whole(string(b))))
	if p.goesWell() {
		p.wet = append(p.wet, slowWrite{at, has})
		return api.OK
	}
	if !stopped && p.spare > 0 {
		for i := range 64 {
			if i >= p.spare {
				has[i] = was[i]
			}
		}
		p.wet = append(p.wet, slowWrite{at, has})
	}
	return api.ErrStop
}

func (p *slow) flush() api.Errno {
	if !p.goesWell() {
		return api.ErrStop
	}
	p.keep(len(p.wet))
	return api.OK
}

func (p *slow) keep(n int) {
	for i, w := range p.wet {
		if i < n {
			p.safe[w.at] = w.has
		}
	}
	p.wet = nil
}

func (p *slow) fall(n int) {
	p.keep(n)
	p.left, p.off = -1, false
}

// checkSlow holds all that a plate tells against the slow one.
func checkSlow(t *testing.T, p *plate.Plate, s *slow) {
	t.Helper()
	checkCounts(t, p, s.acts, len(s.wet), !s.off)
	if p.Size() != len(s.safe) {
		t.Errorf("Size is %d; asked for is %d", p.Size(), len(s.safe))
	}
	for at := -1; at <= len(s.safe); at++ {
		switch {
		case s.off:
			checkFault(t, p, at, api.ErrStop)
		case at < 0 || at == len(s.safe):
			checkFault(t, p, at, api.ErrArg)
		default:
			has := s.now(at)
			checkRead(t, p, at, string(has[:]))
		}
	}
	l := make([]string, len(s.safe))
	for at, has := range s.safe {
		l[at] = string(has[:])
	}
	checkSafe(t, p, l...)
}

// someBytes are a few, of a few kinds, that are too many now and then.
func someBytes(r *rand.Rand) []byte {
	b := make([]byte, r.Intn(67))
	if r.Intn(3) == 0 {
		b = make([]byte, r.Intn(4))
	}
	for i := range b {
		b[i] = byte(r.Intn(4))
	}
	return b
}

// P1, P2, P7.1, P7.2: whatever it is told, in whatever order, it answers as the slow one does; of two that are told the same both do.
func TestAgainstSlow(t *testing.T) {
	r := rand.New(rand.NewSource(10))
	for range 1500 {
		n := r.Intn(5)
		p, q, s := plate.New(n), plate.New(n), &slow{safe: make([][64]byte, n), left: -1}
		for range 60 {
			switch r.Intn(12) {
			default:
				at, b := r.Intn(n+3)-1, someBytes(r)
				want := s.write(at, b)
				checkErr(t, "Write", p.Write(at, b), want)
				checkErr(t, "Write", q.Write(at, b), want)
			case 0, 1:
				want := s.flush()
				checkErr(t, "Flush", p.Flush(), want)
				checkErr(t, "Flush", q.Flush(), want)
			case 2:
				acts, spare := r.Intn(8)-1, r.Intn(70)-3
				if !s.off {
					s.left, s.spare = acts, spare
				}
				p.Arm(acts, spare)
				q.Arm(acts, spare)
			case 3:
				keep := r.Intn(7) - 2
				s.fall(keep)
				p.Fall(keep)
				q.Fall(keep)
			}
			checkSlow(t, p, s)
			if !plate.Same(p, q) || t.Failed() {
				t.Fatal("it parted from the slow one")
			}
		}
	}
}
