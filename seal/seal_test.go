package seal_test

import (
	"bytes"
	"encoding/binary"
	"hash/crc32"
	"math"
	"math/rand"
	"strings"
	"testing"

	"paybook/api"
	"paybook/seal"
)

// words are ages, places and sums about all the bounds of their bytes.
func words() []uint32 {
	l := []uint32{0, 1, 2, 7, 0x01020304, 0x7fffffff, 0x80000000, 0xfffffffe, 0xffffffff}
	for bit := range 32 {
		l = append(l, 1<<bit)
	}
	return l
}

// sumBitByBit is the Sum as the chapter tells it, one bit after another.
func sumBitByBit(p []byte) uint32 {
	rest := uint32(0xffffffff)
	for _, c := range p {
		for bit := range 8 {
			differ := rest&1 != uint32(c>>bit&1)
			rest >>= 1
			if differ {
				rest ^= 0xedb88320
			}
		}
	}
	return ^rest
}

// sealed is what Close is to answer, by the library's sum, though it tell of another size than p has.
func sealed(size, age, place uint32, p []byte) []byte {
	s := binary.BigEndian.AppendUint32(nil, size)
	s = binary.BigEndian.AppendUint32(s, age)
	s = binary.BigEndian.AppendUint32(s, place)
	s = binary.BigEndian.AppendUint32(s, crc32.ChecksumIEEE(append(bytes.Clone(s), p...)))
	return append(s, p...)
}

// opened is what is to come of Age, and of Open but for its age: the first of the faults that the chapter tells holds.
func opened(place uint32, p []byte) (uint32, int, api.Errno) {
	if len(p) < 16 {
		return 0, 0, api.ErrShort
	}
	size := uint64(binary.BigEndian.Uint32(p))
	if size > 1048576 {
		return 0, 0, api.ErrLong
	}
	if uint64(len(p)) < 16+size {
		return 0, 0, api.ErrShort
	}
	if sumBitByBit(append(bytes.Clone(p[:12]), p[16:16+size]...)) != binary.BigEndian.Uint32(p[12:]) {
		return 0, 0, api.ErrForm
	}
	if binary.BigEndian.Uint32(p[8:]) != place {
		return 0, 0, api.ErrOld
	}
	return binary.BigEndian.Uint32(p[4:]), int(16 + size), api.OK
}

// checkOpen holds Open and Age of some bytes against what is to come of them.
func checkOpen(t *testing.T, age, place uint32, p []byte) {
	t.Helper()
	wantAge, wantSize, wantErr := opened(place, p)
	if a, e := seal.Age(place, p); a != wantAge || e != wantErr {
		t.Errorf("Age(%d, %.40x) = %d, %d; asked for is %d, %d", place, p, a, e, wantAge, wantErr)
	}
	var want []byte
	switch {
	case wantErr == api.OK && wantAge == age:
		want = p[16:wantSize]
	case wantErr == api.OK:
		wantSize, wantErr = 0, api.ErrOld
	}
	if q, n, e := seal.Open(age, place, p); !bytes.Equal(q, want) || n != wantSize || e != wantErr {
		t.Errorf("Open(%d, %d, %.40x) = %.40x, %d, %d; asked for is %.40x, %d, %d", age, place, p, q, n, e, want, wantSize, wantErr)
	}
}

// checkFault: Open and Age tell of that fault, and nothing beside it.
func checkFault(t *testing.T, age, place uint32, p []byte, want api.Errno) {
	t.Helper()
	if q, n, e := seal.Open(age, place, p); len(q) != 0 || n != 0 || e != want {
		t.Errorf("Open(%d, %d, %.40x) = %.40x, %d, %d; asked for is %d", age, place, p, q, n, e, want)
	}
	if a, e := seal.Age(place, p); a != 0 || e != want {
		t.Errorf("Age(%d, %.40x) = %d, %d; asked for is %d", place, p, a, e, want)
	}
}

// P6.1: the example, and other sums that are known.
func TestSumKnown(t *testing.T) {
	for _, c := range []struct {
		p    string
		want uint32
	}{
		{"", 0}, {"\x00", 0xd202ef8d}, {"\xff", 0xff000000}, {"a", 0xe8b7be43}, {"abc", 0x352441c2},
		{"123456789", 0xcbf43926},
		{"The quick brown fox jumps over the lazy dog", 0x414fa339},
		{strings.Repeat("\x00", 4), 0x2144df1c}, {strings.Repeat("\xff", 4), 0xffffffff},
		{strings.Repeat("\x00", 32), 0x190a55ad}, {strings.Repeat("\xff", 32), 0xff6cab0b},
	} {
		if n := seal.Sum([]byte(c.p)); n != c.want {
			t.Errorf("Sum(%q) = %x; asked for is %x", c.p, n, c.want)
		}
	}
}

// P6.1: Sum of every one and every two bytes, and of many, bit by bit.
func TestSumBitByBit(t *testing.T) {
	check := func(p []byte) {
		if n, want := seal.Sum(p), sumBitByBit(p); n != want {
			t.Errorf("Sum(%.40x) = %x; asked for is %x", p, n, want)
		}
	}
	check(nil)
	check([]byte{})
	for c := range 256 {
		check([]byte{byte(c)})
		for d := range 256 {
			check([]byte{byte(c), byte(d)})
		}
	}
	r := rand.New(rand.NewSource(6))
	for n := range 600 {
		p := make([]byte, n)
		r.Read(p)
		check(p)
	}
	p := make([]byte, 1<<20+3)
	r.Read(p)
	if n := seal.Sum(p); n != crc32.ChecksumIEEE(p) {
		t.Errorf("of %d bytes: %x", len(p), n)
	}
}

// P6.1: Close, told whole (the sums are of another program): the words, the highest byte first, and the bytes.
func TestCloseWhole(t *testing.T) {
	for _, c := range []struct {
		age, place uint32
		p          string
		want       string
	}{
		{0, 0, "", "\x00\x00\x00\x00\x00\x00\x00\x00\x00\x00\x00\x00\x7b\xd5\xc6\x6f"},
		{7, 2, "hello", "\x00\x00\x00\x05\x00\x00\x00\x07\x00\x00\x00\x02\x12\x6a\x74\x39hello"},
		{0x01020304, 0xfffefdfc, "\x00\xff", "\x00\x00\x00\x02\x01\x02\x03\x04\xff\xfe\xfd\xfc\xc4\x33\x4e\xfd\x00\xff"},
	} {
		if s := seal.Close(c.age, c.place, []byte(c.p)); string(s) != c.want {
			t.Errorf("Close(%d, %d, %q) = %x; asked for is %x", c.age, c.place, c.p, s, c.want)
		}
	}
}

// P6.1, P6.2: Close at all ages and places about their bytes' bounds, and Open and Age of it.
func TestCloseAndOpen(t *testing.T) {
	r := rand.New(rand.NewSource(7))
	for _, age := range words() {
		for _, place := range words() {
			p := make([]byte, r.Intn(300))
			r.Read(p)
			s := seal.Close(age, place, p)
			if want := sealed(uint32(len(p)), age, place, p); !bytes.Equal(s, want) {
				t.Errorf("Close(%d, %d, %x) = %x; asked for is %x", age, place, p, s, want)
			}
			if len(s) != seal.Size(len(p)) {
				t.Errorf("%d bytes under a seal are %d, of which Size tells %d", len(p), len(s), seal.Size(len(p)))
			}
			checkOpen(t, age, place, s)
			if q, n, e := seal.Open(age, place, s); !bytes.Equal(q, p) || n != len(s) || e != api.OK {
				t.Errorf("Open(%d, %d, %x) = %x, %d, %d", age, place, s, q, n, e)
			}
			if a, e := seal.Age(place, s); a != age || e != api.OK {
				t.Errorf("Age(%d, %x) = %d, %d", place, s, a, e)
			}
		}
	}
}

// P6.1: Size, and of less than none.
func TestSize(t *testing.T) {
	for _, c := range [][2]int{
		{0, 16}, {1, 17}, {5, 21}, {300, 316}, {1048576, 1048592}, {1048577, 1048593}, {math.MaxInt32 - 16, math.MaxInt32},
		{-1, 16}, {-16, 16}, {-17, 16}, {math.MinInt32, 16}, {math.MinInt, 16},
	} {
		if n := seal.Size(c[0]); n != c[1] {
			t.Errorf("Size(%d) = %d; asked for is %d", c[0], n, c[1])
		}
	}
}

// P6.2: what stands behind a seal and its bytes is nothing to it: another seal, or part of one.
func TestOpenAmongOthers(t *testing.T) {
	first, second := seal.Close(3, 0, []byte("first")), seal.Close(3, 1, nil)
	row := append(append(bytes.Clone(first), second...), seal.Close(4, 2, []byte("third"))...)
	for _, c := range []struct {
		age, place uint32
		want       string
	}{{3, 0, "first"}, {3, 1, ""}, {4, 2, "third"}} {
		p, n, e := seal.Open(c.age, c.place, row)
		if a, ae := seal.Age(c.place, row); a != c.age || ae != api.OK {
			t.Errorf("%d: its age is %d, %d", c.place, a, ae)
		}
		if string(p) != c.want || n != seal.Size(len(c.want)) || e != api.OK {
			t.Fatalf("%d: %q, %d, %d; asked for is %q", c.place, p, n, e, c.want)
		}
		row = row[n:]
	}
	if len(row) != 0 {
		t.Errorf("%x is left", row)
	}
	for behind := range 40 {
		checkOpen(t, 3, 0, append(bytes.Clone(first), make([]byte, behind)...))
		checkOpen(t, 3, 0, append(bytes.Clone(first), bytes.Repeat([]byte{255}, behind)...))
	}
}

// P6.2: ErrShort: of all that a seal and its bytes begin with.
func TestShort(t *testing.T) {
	for _, p := range []string{"", "a", "hello", strings.Repeat("long", 100)} {
		s := seal.Close(7, 2, []byte(p))
		for size := range s {
			checkFault(t, 7, 2, s[:size], api.ErrShort)
			checkFault(t, 8, 3, s[:size], api.ErrShort)
		}
	}
	checkFault(t, 0, 0, nil, api.ErrShort)
	checkFault(t, 0, 0, []byte{}, api.ErrShort)
}

// P6.2: MaxBytes work, and one beyond is ErrLong.
func TestMaxBytes(t *testing.T) {
	p := make([]byte, 1048577)
	rand.New(rand.NewSource(8)).Read(p)
	most, beyond := seal.Close(7, 2, p[:1048576]), seal.Close(7, 2, p)
	if q, n, e := seal.Open(7, 2, most); !bytes.Equal(q, p[:1048576]) || n != 1048592 || e != api.OK {
		t.Error(len(q), n, e)
	}
	if a, e := seal.Age(2, most); a != 7 || e != api.OK {
		t.Error(a, e)
	}
	if !bytes.Equal(beyond, sealed(1048577, 7, 2, p)) {
		t.Error("Close of more than MaxBytes isn't as of others")
	}
	checkFault(t, 7, 2, beyond, api.ErrLong)
	checkFault(t, 7, 2, most[:len(most)-1], api.ErrShort)
}

// P6.2: of several faults the one holds that the chapter tells first.
func TestWhichFault(t *testing.T) {
	right := seal.Close(7, 2, []byte("hello"))
	wrong := bytes.Clone(right)
	wrong[15] ^= 1
	for _, c := range []struct {
		name       string
		age, place uint32
		p          []byte
		want       api.Errno
	}{
		{"15 bytes that tell too many", 7, 2, bytes.Repeat([]byte{255}, 15), api.ErrShort},
		{"16 bytes that tell too many", 7, 2, bytes.Repeat([]byte{255}, 16), api.ErrLong},
		{"one more than MaxBytes, that aren't there", 7, 2, sealed(1048577, 7, 2, nil), api.ErrLong},
		{"MaxBytes, that aren't there", 7, 2, sealed(1048576, 7, 2, nil), api.ErrShort},
		{"the highest byte alone tells too many", 7, 2, sealed(1<<24, 7, 2, []byte("hello")), api.ErrLong},
		{"more than any number above 0", 7, 2, sealed(1<<31, 7, 2, []byte("hello")), api.ErrLong},
		{"as many as with the seal would be few again", 7, 2, sealed(0xfffffff0, 7, 2, []byte("hello")), api.ErrLong},
		{"it ends early, with another sum and place", 8, 3, wrong[:20], api.ErrShort},
		{"it tells one more than there are", 7, 2, sealed(6, 7, 2, []byte("hello")), api.ErrShort},
		{"it tells one less than the sum is of", 7, 2, sealed(4, 7, 2, []byte("hello")), api.ErrForm},
		{"another sum", 7, 2, wrong, api.ErrForm},
		{"another sum, age and place", 8, 3, wrong, api.ErrForm},
		{"noughts", 0, 0, make([]byte, 64), api.ErrForm},
		{"another place", 7, 3, right, api.ErrOld},
		{"another age and place", 8, 3, right, api.ErrOld},
		{"age and place, one for the other", 2, 7, right, api.ErrOld},
	} {
		t.Run(c.name, func(t *testing.T) {
			checkFault(t, c.age, c.place, c.p, c.want)
			checkOpen(t, c.age, c.place, c.p)
		})
	}
}

// P6.2: ErrOld at every other age and place; Age tells of every age, and of no other place.
func TestOld(t *testing.T) {
	for _, is := range words() {
		s, m := seal.Close(is, 2, []byte("hello")), seal.Close(7, is, []byte("hello"))
		for _, asked := range words() {
			want := api.OK
			if asked != is {
				want = api.ErrOld
			}
			if _, _, e := seal.Open(asked, 2, s); e != want {
				t.Errorf("of age %d: Open(%d) = %d", is, asked, e)
			}
			if _, _, e := seal.Open(7, asked, m); e != want {
				t.Errorf("at place %d: Open(%d) = %d", is, asked, e)
			}
			if _, e := seal.Age(asked, m); e != want {
				t.Errorf("at place %d: Age(%d) = %d", is, asked, e)
			}
			checkOpen(t, asked, 2, s)
			checkOpen(t, 7, asked, m)
		}
	}
}

// P6.2: a byte that is another one, wherever it is and whichever: the bytes tell that they aren't right, even at the age and place that they tell.
func TestOneByteAnother(t *testing.T) {
	s := seal.Close(7, 2, []byte("hello"))
	behind := append(bytes.Clone(s), "there may be more of them behind"...)
	for at := range s {
		for turn := 1; turn < 256; turn++ {
			for _, p := range [][]byte{bytes.Clone(s), bytes.Clone(behind)} {
				p[at] ^= byte(turn)
				age, place := binary.BigEndian.Uint32(p[4:]), binary.BigEndian.Uint32(p[8:])
				for _, e := range []api.Errno{faultOf(seal.Open(7, 2, p)), faultOf(seal.Open(age, place, p))} {
					if e == api.OK || at >= 4 && e != api.ErrForm {
						t.Errorf("byte %d turned by %x: %d", at, turn, e)
					}
				}
				checkOpen(t, 7, 2, p)
				checkOpen(t, age, place, p)
			}
		}
	}
}

func faultOf(_ []byte, _ int, e api.Errno) api.Errno {
	return e
}

// P6.1, P6.2: nil and empty bytes are the same.
func TestNone(t *testing.T) {
	for _, p := range [][]byte{nil, {}} {
		s := seal.Close(1, 2, p)
		if seal.Sum(p) != 0 || !bytes.Equal(s, sealed(0, 1, 2, nil)) {
			t.Errorf("of %#v: %x, %x", p, seal.Sum(p), s)
		}
		if q, n, e := seal.Open(1, 2, s); len(q) != 0 || n != 16 || e != api.OK {
			t.Errorf("%x, %d, %d", q, n, e)
		}
		checkFault(t, 1, 2, p, api.ErrShort)
	}
}

// What is handed in isn't changed, nor is it part of what is answered; what was answered may be appended to.
func TestMemory(t *testing.T) {
	room := []byte("hello, and what stands behind it")
	s := seal.Close(7, 2, room[:5])
	if string(room) != "hello, and what stands behind it" {
		t.Errorf("what is handed in to Close is changed: %q", room)
	}
	copy(room, "HELLO")
	whole := append(bytes.Clone(s), "more"...)
	kept := bytes.Clone(whole)
	p, _, e := seal.Open(7, 2, whole)
	seal.Age(2, whole)
	seal.Sum(whole)
	if string(p) != "hello" || e != api.OK || !bytes.Equal(whole, kept) {
		t.Errorf("%q, %d, %x", p, e, whole)
	}
	_ = append(p, "XXXX"...)
	_ = append(s, "YYYY"...)
	p[0] = 'J'
	if !bytes.Equal(whole, kept) {
		t.Errorf("what Open answers is what was handed in: %x", whole)
	}
	clear(whole)
	if string(p) != "Jello" || string(s[16:]) != "hello" {
		t.Errorf("%q, %x", p, s)
	}
}

// P1: no call panics, whatever bytes there are; P2: asked again, each answers the same.
func TestNonePanics(t *testing.T) {
	r := rand.New(rand.NewSource(9))
	for range 20000 {
		p := make([]byte, r.Intn(60))
		r.Read(p)
		age, place := r.Uint32()>>r.Intn(32), r.Uint32()>>r.Intn(32)
		if len(p) >= 16 && r.Intn(4) > 0 {
			binary.BigEndian.PutUint32(p, uint32(r.Intn(60)))
		}
		if len(p) >= 16 && r.Intn(3) > 0 {
			under := min(binary.BigEndian.Uint32(p), uint32(len(p)-16))
			binary.BigEndian.PutUint32(p[8:], place)
			binary.BigEndian.PutUint32(p[12:], sumBitByBit(append(bytes.Clone(p[:12]), p[16:16+under]...)))
		}
		checkOpen(t, age, place, p)
		checkOpen(t, age, place, p)
		if len(p) >= 8 {
			checkOpen(t, binary.BigEndian.Uint32(p[4:]), place, p)
		}
		if !bytes.Equal(seal.Close(age, place, p), seal.Close(age, place, p)) || seal.Sum(p) != seal.Sum(p) {
			t.Errorf("%x: asked again, another answer", p)
		}
	}
	seal.Size(math.MaxInt)
}
