package diary_test

import (
	"bytes"
	"encoding/binary"
	"fmt"
	"hash/crc32"
	"math/rand"
	"slices"
	"strings"
	"testing"

	"paybook/api"
	"paybook/diary"
	"paybook/plate"
)

// state is what a diary has.
type state struct {
	age     uint32
	first   string
	entries []string
}

// sealed is some bytes under a seal, by the library's sum.
func sealed(age, place uint32, p string) string {
	s := binary.BigEndian.AppendUint32(nil, uint32(len(p)))
	s = binary.BigEndian.AppendUint32(s, age)
	s = binary.BigEndian.AppendUint32(s, place)
	s = binary.BigEndian.AppendUint32(s, crc32.ChecksumIEEE(append(bytes.Clone(s), p...)))
	return string(s) + p
}

// row is a half's bytes that has a state.
func (s state) row() string {
	l := sealed(s.age, 0, s.first)
	for i, p := range s.entries {
		l += sealed(s.age, uint32(i+1), p)
	}
	return l
}

// with is a state with one more entry; anew is one that was begun again.
func (s state) with(p string) state {
	return state{s.age, s.first, append(slices.Clone(s.entries), p)}
}

func (s state) anew(first string) state {
	return state{age: s.age + 1, first: first}
}

func (s state) String() string {
	return fmt.Sprintf("age %d, first %.60q, entries %.200q", s.age, s.first, s.entries)
}

func same(a, b state) bool {
	return a.age == b.age && a.first == b.first && slices.Equal(a.entries, b.entries)
}

// told is all that a diary tells.
func told(d *diary.Diary) state {
	s := state{age: uint32(d.Age()), first: string(d.First())}
	for _, p := range d.Entries() {
		s.entries = append(s.entries, string(p))
	}
	return s
}

func checkErr(t *testing.T, what string, e, want api.Errno) {
	t.Helper()
	if e != want {
		t.Errorf("%s: %d; asked for is %d", what, e, want)
	}
}

// check holds all that a diary tells, on a plate of so many sectors, against a state.
func check(t *testing.T, d *diary.Diary, sectors int, want state) {
	t.Helper()
	if got := told(d); !same(got, want) {
		t.Errorf("it has %v; asked for is %v", got, want)
	}
	if left := sectors/2*64 - len(want.row()); d.Left() != left {
		t.Errorf("Left is %d; asked for is %d", d.Left(), left)
	}
}

// open is a plate's diary, where nothing may go wrong.
func open(t *testing.T, p *plate.Plate) *diary.Diary {
	t.Helper()
	d, e := diary.Open(p)
	if e != api.OK {
		t.Fatalf("Open: %d", e)
	}
	return d
}

// put writes some bytes into a plate's sectors, from one on, and makes them safe.
func put(t *testing.T, p *plate.Plate, from int, b string) {
	t.Helper()
	for at := 0; at < len(b); at += 64 {
		checkErr(t, "Write", p.Write(from+at/64, []byte(b[at:min(at+64, len(b))])), api.OK)
	}
	checkErr(t, "Flush", p.Flush(), api.OK)
}

// plateOf is one that has these bytes in its halves.
func plateOf(t *testing.T, sectors int, low, high string) *plate.Plate {
	t.Helper()
	p := plate.New(sectors)
	put(t, p, 0, low)
	put(t, p, sectors/2, high)
	return p
}

// raw is all the bytes of some sectors.
func raw(t *testing.T, p *plate.Plate, from, n int) string {
	t.Helper()
	var l []byte
	for at := range n {
		b, e := p.Read(from + at)
		checkErr(t, "Read", e, api.OK)
		l = append(l, b...)
	}
	return string(l)
}

// filled is some bytes, and noughts behind them up to so many sectors.
func filled(b string, sectors int) string {
	return b + strings.Repeat("\x00", sectors*64-len(b))
}

// checkHalves: a plate has these bytes in its halves, and noughts behind them, and all is safe.
func checkHalves(t *testing.T, p *plate.Plate, low, high string) {
	t.Helper()
	n := p.Size() / 2
	if got := raw(t, p, 0, n); got != filled(low, n) {
		t.Errorf("half 0 has %x; asked for is %x", got, low)
	}
	if got := raw(t, p, n, n); got != filled(high, n) {
		t.Errorf("half 1 has %x; asked for is %x", got, high)
	}
	if p.Wet() != 0 {
		t.Errorf("%d writes aren't safe", p.Wet())
	}
}

// P8.1, P8.2: the example.
func TestExample(t *testing.T) {
	p := plate.New(8)
	checkErr(t, "Add", open(t, p).Add([]byte("hi")), api.OK)
	p.Fall(0)
	check(t, open(t, p), 8, state{1, "", []string{"hi"}})
}

// P8.1: a plate without a diary: no bytes at first, of age 1, in half 0, whatever is there.
func TestOpenNew(t *testing.T) {
	began := state{age: 1}
	cut := state{age: 9, first: strings.Repeat("cut", 30)}.row()
	for size := 2; size < 12; size++ {
		n := size / 2
		for _, was := range []string{"", "x", strings.Repeat("x", n*64), "\x00\x01", strings.Repeat("\x00", n*64-1) + "\x01", sealed(9, 1, ""), sealed(9, 0, "")[1:], cut[:64]} {
			p := plateOf(t, size, was, was)
			check(t, open(t, p), size, began)
			checkHalves(t, p, began.row(), was)
			p.Fall(0)
			check(t, open(t, p), size, began)
			checkHalves(t, p, began.row(), was)
		}
	}
}

// P8.1: a seal that is right, but ends behind its half, isn't there; one that ends with it is.
func TestOpenWholeHalf(t *testing.T) {
	whole, long := state{age: 5, first: strings.Repeat("w", 112)}, state{age: 6, first: strings.Repeat("l", 113)}
	for _, c := range []struct {
		low, high string
		want      state
	}{
		{whole.row(), "", whole},
		{"", whole.row(), whole},
		{long.row()[:128], long.row()[128:], state{age: 1}}, // what it wants is in half 1
		{"", long.row()[:128], state{age: 1}},               // and in the odd sector
		{whole.row(), long.row()[:128], whole},
		{long.row()[:128], whole.row(), whole},
	} {
		p := plate.New(5)
		put(t, p, 0, filled(c.low, 2)+filled(c.high, 2)+"llll")
		check(t, open(t, p), 5, c.want)
		if got := raw(t, p, 4, 1); got != filled("llll", 1) {
			t.Errorf("the odd sector has %q", got)
		}
	}
}

// P8.1: the half of the greater age, by the whole of the age, where both are right; else the one that is.
func TestOpenAges(t *testing.T) {
	wrong := "x" + state{age: 0xffffffff}.row()
	for _, ages := range [][2]uint32{{1, 2}, {2, 3}, {0, 1}, {255, 256}, {256, 257}, {7, 1 << 31}, {1 << 24, 1<<24 + 1}, {1<<31 - 1, 1 << 31}, {0xfffffffe, 0xffffffff}, {0, 0xffffffff}} {
		older, newer := state{ages[0], "older", []string{"a", "b", "c"}}, state{ages[1], "newer", []string{"d"}}
		for _, c := range []struct {
			low, high string
			want      state
		}{
			{older.row(), newer.row(), newer}, {newer.row(), older.row(), newer},
			{older.row(), wrong, older}, {wrong, older.row(), older},
			{newer.row(), "", newer}, {"", newer.row(), newer},
		} {
			p := plateOf(t, 10, c.low, c.high)
			d := open(t, p)
			check(t, d, 10, c.want)
			checkHalves(t, p, c.low, c.high)
			if d.Age() != int(c.want.age) {
				t.Errorf("Age is %d", d.Age())
			}
		}
	}
}

// P8.1: entries are of the first's age and of places 1, 2, ..; up to the first that isn't right; all behind that is made noughts, in that half alone.
func TestOpenEntries(t *testing.T) {
	s := state{7, "first", []string{"one", "", strings.Repeat("three", 30)}}
	torn := sealed(7, 4, "torn off")
	for _, behind := range []string{
		"", "\x00", "\x00\x00\x00\x01", strings.Repeat("\x00", 100) + "\x01", "x", strings.Repeat("\xff", 200),
		sealed(7, 3, "again"), sealed(7, 5, "a place further"), sealed(7, 0, "first"), sealed(6, 4, "older"), sealed(8, 4, "newer"),
		torn[:len(torn)-1], torn[:16], torn[:15], "X" + torn[1:], torn[:20] + "X" + torn[21:],
		strings.Repeat("\x00", 3) + sealed(7, 4, "behind noughts"),
		"\x00" + sealed(7, 4, "one further") + sealed(7, 5, "two"),
		sealed(7, 5, "skipped") + sealed(7, 4, "late"),
	} {
		for _, high := range []bool{false, true} {
			other := state{6, "other", []string{"e"}}.row() + "and what is behind it"
			for _, wet := range []bool{false, true} {
				p := plateOf(t, 14, "", "")
				low, top := s.row()+behind, other
				if high {
					low, top = top, low
				}
				if put(t, p, 0, low); !wet {
					put(t, p, 7, top)
				}
				for at := 0; wet && at < len(top); at += 64 {
					p.Write(7+at/64, []byte(top[at:min(at+64, len(top))]))
				}
				low, top = s.row(), other
				if high {
					low, top = top, low
				}
				check(t, open(t, p), 14, s)
				checkHalves(t, p, low, top)
				p.Fall(0)
				check(t, open(t, p), 14, s)
				checkHalves(t, p, low, top)
			}
		}
	}
}

// P8.1: what is behind the last entry is noughts though it is a byte at any place.
func TestOpenEveryByteBehind(t *testing.T) {
	s := state{3, "first", []string{"entry"}}
	for at := len(s.row()); at < 256; at++ {
		for _, b := range []string{"\x01", "\x80", "\xff"} {
			p := plateOf(t, 8, filled(s.row(), 4)[:at]+b, "")
			check(t, open(t, p), 8, s)
			checkHalves(t, p, s.row(), "")
		}
	}
}

// P8.1: ErrStop; ErrFull: a half has no room for a seal, or the plate is nil.
func TestOpenErrors(t *testing.T) {
	refused := func(name string, p *plate.Plate, want api.Errno) {
		t.Helper()
		if d, e := diary.Open(p); d != nil || e != want {
			t.Errorf("%s: %v, %d; asked for is %d", name, d, e, want)
		}
	}
	refused("nil", nil, api.ErrFull)
	for n := -1; n < 2; n++ {
		p := plate.New(n)
		refused("too small", p, api.ErrFull)
		p.Arm(0, 0)
		refused("too small, and armed", p, api.ErrFull)
		if p.Acts() != 0 || !p.On() {
			t.Errorf("%d acts are done", p.Acts())
		}
	}
	for n := range 5 {
		p := plate.New(n)
		p.Arm(0, 0)
		p.Flush()
		refused("stopped", p, api.ErrStop)
	}
	p := plate.New(2)
	p.Arm(0, 64)
	refused("it stops", p, api.ErrStop)
	p.Fall(0)
	check(t, open(t, p), 2, state{age: 1})
}

// P8.2: Start and Add, told whole: the one half and the other, by turns; the older one stays till it is begun in.
func TestHalves(t *testing.T) {
	p := plate.New(13)
	d := open(t, p)
	now := state{age: 1}
	old := ""
	long := strings.Repeat("0123456789", 20)
	for turn := range 12 {
		for i := range 6 {
			checkErr(t, "Add", d.Add([]byte(long[:turn*5%17+i])), api.OK)
			now = now.with(long[:turn*5%17+i])
			check(t, d, 13, now)
			if turn%2 == 0 {
				checkHalves(t, p, now.row(), old)
			} else {
				checkHalves(t, p, old, now.row())
			}
		}
		old = now.row()
		first := long[:turn*71%199]
		checkErr(t, "Start", d.Start([]byte(first)), api.OK)
		now = now.anew(first)
		check(t, d, 13, now)
		if turn%2 == 0 {
			checkHalves(t, p, old, now.row())
		} else {
			checkHalves(t, p, now.row(), old)
		}
		if turn%3 == 0 {
			p.Fall(0)
			d = open(t, p)
			check(t, d, 13, now)
		}
	}
	if got := raw(t, p, 12, 1); got != filled("", 1) {
		t.Errorf("the odd sector has %q", got)
	}
}

// P8.2: Start makes noughts of all in the other half, wherever it is; so does the first of all.
func TestStartWipes(t *testing.T) {
	s := state{4, "here", []string{"e"}}
	for at := range 256 {
		p := plateOf(t, 8, strings.Repeat("\x00", at)+"\x01", s.row())
		d := open(t, p)
		checkErr(t, "Start", d.Start([]byte("anew")), api.OK)
		check(t, d, 8, s.anew("anew"))
		checkHalves(t, p, s.anew("anew").row(), s.row())
		q := plateOf(t, 8, strings.Repeat("\x00", at)+"\x01", "")
		check(t, open(t, q), 8, state{age: 1})
		checkHalves(t, q, state{age: 1}.row(), "")
	}
}

// P8.2: Start's ErrFull at a half's edge: nothing has changed.
func TestStartFull(t *testing.T) {
	for sectors := 2; sectors < 10; sectors++ {
		most := sectors/2*64 - 16
		p := plate.New(sectors)
		d := open(t, p)
		checkErr(t, "Add", d.Add([]byte("a")), api.OK)
		before, acts := told(d), p.Acts()
		for _, n := range []int{most + 1, most + 2, most + 16, most + 64, most * 2, api.MaxBytes, api.MaxBytes + 1} {
			p.Arm(0, 0)
			checkErr(t, "Start", d.Start(make([]byte, n)), api.ErrFull)
		}
		p.Arm(-1, 0)
		check(t, d, sectors, before)
		if p.Acts() != acts {
			t.Errorf("%d acts were done", p.Acts()-acts)
		}
		checkHalves(t, p, before.row(), "")
		whole := strings.Repeat("w", most)
		checkErr(t, "Start", d.Start([]byte(whole)), api.OK)
		check(t, d, sectors, before.anew(whole))
		checkErr(t, "Add", d.Add(nil), api.ErrFull)
		check(t, open(t, p), sectors, before.anew(whole))
	}
}

// P8.2: Add's ErrFull at a half's edge, of any size that was there: nothing has changed; and Left.
func TestAddFull(t *testing.T) {
	for ahead := range 97 {
		p := plate.New(4)
		d := open(t, p)
		now := state{age: 1}
		if ahead > 0 {
			now = now.anew(strings.Repeat("f", ahead))
			checkErr(t, "Start", d.Start([]byte(now.first)), api.OK)
		}
		left := 128 - 16 - ahead
		check(t, d, 4, now)
		acts := p.Acts()
		for n := max(left-15, 0); n < left+40; n++ {
			checkErr(t, "Add", d.Add(make([]byte, n)), api.ErrFull)
		}
		checkErr(t, "Add", d.Add(make([]byte, api.MaxBytes)), api.ErrFull)
		check(t, d, 4, now)
		if p.Acts() != acts || p.Wet() != 0 {
			t.Errorf("%d acts were done", p.Acts()-acts)
		}
		if left < 16 {
			continue
		}
		last := strings.Repeat("l", left-16)
		checkErr(t, "Add", d.Add([]byte(last)), api.OK)
		check(t, d, 4, now.with(last))
		checkErr(t, "Add", d.Add(nil), api.ErrFull)
		p.Fall(0)
		check(t, open(t, p), 4, now.with(last))
	}
}

// P8.2: MaxBytes work; one beyond is ErrFull at first, ErrLong as an entry, also where there is no room.
func TestMaxBytes(t *testing.T) {
	const sectors = 2 * (2*(1<<20)/64 + 3)
	p := plate.New(sectors)
	d := open(t, p)
	b := make([]byte, 1<<20+1)
	rand.New(rand.NewSource(20)).Read(b)
	most := string(b[:1<<20])
	now := state{age: 1}
	checkErr(t, "Start", d.Start(b), api.ErrFull)
	checkErr(t, "Add", d.Add(b), api.ErrLong)
	check(t, d, sectors, now)
	now = now.anew(most).with(most)
	checkErr(t, "Start", d.Start([]byte(most)), api.OK)
	checkErr(t, "Add", d.Add([]byte(most)), api.OK)
	check(t, d, sectors, now)
	checkErr(t, "Add", d.Add([]byte(most)), api.ErrFull)
	checkErr(t, "Add", d.Add(b), api.ErrLong)
	p.Fall(0)
	check(t, open(t, p), sectors, now)
	small := open(t, plate.New(2))
	checkErr(t, "Add", small.Add(b), api.ErrLong)
	checkErr(t, "Start", small.Start(b), api.ErrFull)
	p.Arm(0, 0)
	p.Flush()
	checkErr(t, "Add", d.Add(b), api.ErrLong)
	checkErr(t, "Add", d.Add([]byte(most)), api.ErrFull)
	checkErr(t, "Start", d.Start(b), api.ErrFull)
	checkErr(t, "Add", d.Add(nil), api.ErrStop)
	checkErr(t, "Start", d.Start(nil), api.ErrStop)
}

// P8.1: a seal that tells more than MaxBytes isn't right, though its half has them.
func TestBeyondMaxBytes(t *testing.T) {
	const sectors = 2 * ((1<<20)/64 + 3)
	s := state{age: 3, first: "first", entries: []string{"entry"}}
	p := plateOf(t, sectors, state{age: 9, first: strings.Repeat("b", 1<<20+1)}.row(), s.row()+sealed(3, 2, strings.Repeat("b", 1<<20+1)))
	check(t, open(t, p), sectors, s)
	if got := raw(t, p, sectors/2, sectors/2); got != filled(s.row(), sectors/2) {
		t.Error("what is behind the last entry isn't noughts")
	}
}

// P8.1, P8.2: of a nil Diary.
func TestNil(t *testing.T) {
	var d *diary.Diary
	for _, b := range [][]byte{nil, []byte("hi"), make([]byte, 1<<20+1)} {
		checkErr(t, "Start", d.Start(b), api.ErrNone)
		checkErr(t, "Add", d.Add(b), api.ErrNone)
	}
	if len(d.First()) != 0 || len(d.Entries()) != 0 || d.Age() != 0 || d.Left() != 0 {
		t.Error(d.First(), d.Entries(), d.Age(), d.Left())
	}
}

// nil and empty bytes are the same.
func TestNone(t *testing.T) {
	for _, none := range [][]byte{nil, {}} {
		p := plate.New(8)
		d := open(t, p)
		checkErr(t, "Add", d.Add(none), api.OK)
		check(t, d, 8, state{1, "", []string{""}})
		checkErr(t, "Start", d.Start(none), api.OK)
		checkErr(t, "Add", d.Add(none), api.OK)
		checkErr(t, "Add", d.Add(none), api.OK)
		check(t, d, 8, state{2, "", []string{"", ""}})
		check(t, open(t, p), 8, state{2, "", []string{"", ""}})
	}
}

// What is handed in isn't changed, and may be written over; so may what is told, and be appended to.
func TestMemory(t *testing.T) {
	p := plate.New(8)
	d := open(t, p)
	want := state{2, "first", []string{"one", "two"}}
	room := []byte("first and what is behind it")
	checkErr(t, "Start", d.Start(room[:5]), api.OK)
	for _, entry := range want.entries {
		copy(room, entry)
		checkErr(t, "Add", d.Add(room[:3]), api.OK)
		if string(room[:3]) != entry || string(room[5:]) != " and what is behind it" {
			t.Errorf("what is handed in is changed: %q", room)
		}
	}
	clear(room)
	for _, its := range []*diary.Diary{d, open(t, p)} {
		first, l := its.First(), its.Entries()
		_ = append(first, "more"...)
		_ = append(l[0], "more"...)
		_ = append(l[:1], []byte("other"))
		if string(first) != "first" || string(l[0]) != "one" {
			t.Errorf("%q, %q", first, l)
		}
		check(t, its, 8, want)
		l = its.Entries()
		clear(first)
		clear(l[0])
		clear(l[1])
		clear(l)
		check(t, its, 8, want)
	}
	check(t, open(t, p), 8, want)
}

// P2: what one diary is told is nothing to another, on another plate.
func TestApart(t *testing.T) {
	p, q := plate.New(8), plate.New(8)
	a, b := open(t, p), open(t, q)
	checkErr(t, "Add", a.Add([]byte("a")), api.OK)
	check(t, b, 8, state{age: 1})
	checkErr(t, "Start", b.Start([]byte("b")), api.OK)
	check(t, a, 8, state{1, "", []string{"a"}})
	p.Arm(0, 0)
	checkErr(t, "Add", a.Add(nil), api.ErrStop)
	checkErr(t, "Add", b.Add([]byte("c")), api.OK)
	check(t, open(t, q), 8, state{2, "b", []string{"c"}})
}

// P1: a plate with many sectors, and many entries, soon.
func TestMany(t *testing.T) {
	const sectors = 1 << 16
	p := plate.New(sectors)
	d := open(t, p)
	now := state{age: 1}
	for i := range 20000 {
		entry := strings.Repeat("e", i%100)
		checkErr(t, "Add", d.Add([]byte(entry)), api.OK)
		now.entries = append(now.entries, entry)
	}
	p.Fall(0)
	if got := told(open(t, p)); !same(got, now) {
		t.Errorf("%d entries", len(got.entries))
	}
}
