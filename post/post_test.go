package post_test

import (
	"bytes"
	"math"
	"math/big"
	"runtime"
	"slices"
	"strconv"
	"testing"
	"weak"

	"paybook/api"
	"paybook/post"
)

// wild are numbers that name a letter of any post.
var wild = []int{math.MinInt, math.MinInt + 1, math.MinInt32, -1025, -513, -512, -511, -2, -1, 0, 1, 2, 511, 512, 513, 1024, math.MaxInt32, math.MaxInt - 1, math.MaxInt}

// mod is i modulo n, from 0 on, by numbers of any length.
func mod(i, n int) int {
	return int(new(big.Int).Mod(big.NewInt(int64(i)), big.NewInt(int64(n))).Int64())
}

// letter is the n-th of many, each another one.
func letter(n int) post.Letter {
	return post.Letter{To: byte(n * 7), P: []byte("letter " + strconv.Itoa(n))}
}

// letters are the first n of them.
func letters(n int) []post.Letter {
	var l []post.Letter
	for i := range n {
		l = append(l, letter(i))
	}
	return l
}

// sent is a post to which these letters were sent.
func sent(l []post.Letter) *post.Post {
	p := &post.Post{}
	for _, x := range l {
		p.Send(x.To, x.P)
	}
	return p
}

func alike(a, b post.Letter) bool {
	return a.To == b.To && bytes.Equal(a.P, b.P)
}

// check: these letters are under way, in this order. They are all taken, and sent again.
func check(t *testing.T, p *post.Post, want []post.Letter) {
	t.Helper()
	if n := p.Len(); n != len(want) {
		t.Fatalf("Len() = %d; asked for is %d", n, len(want))
	}
	var l []post.Letter
	for range want {
		x, e := p.Take(0)
		if e != api.OK {
			t.Fatalf("Take(0) = %d", e)
		}
		l = append(l, x)
	}
	empty(t, p)
	if !slices.EqualFunc(l, want, alike) {
		t.Fatalf("under way are %q; asked for is %q", l, want)
	}
	for _, x := range l {
		p.Send(x.To, x.P)
	}
}

// empty: no letter is under way, and none beside that is answered.
func empty(t *testing.T, p *post.Post) {
	t.Helper()
	for _, i := range wild {
		if x, e := p.Take(i); e != api.ErrNone || x.To != 0 || len(x.P) != 0 {
			t.Fatalf("Take(%d) of none = %q, %d", i, x, e)
		}
		if e := p.Lose(i); e != api.ErrNone {
			t.Fatalf("Lose(%d) of none = %d", i, e)
		}
		if e := p.Double(i); e != api.ErrNone {
			t.Fatalf("Double(%d) of none = %d", i, e)
		}
		if n := p.Len(); n != 0 {
			t.Fatalf("Len() of none = %d", n)
		}
	}
}

// P18.1: the zero value has no letters.
func TestZero(t *testing.T) {
	var p post.Post
	empty(t, &p)
	p.Send(3, []byte("hi"))
	check(t, &p, []post.Letter{{To: 3, P: []byte("hi")}})
}

// P18.1: the chapter's example.
func TestExample(t *testing.T) {
	p := &post.Post{}
	p.Send(1, []byte("a"))
	if e := p.Double(0); e != api.OK {
		t.Errorf("Double(0) = %d", e)
	}
	if n := p.Len(); n != 2 {
		t.Errorf("Len() = %d", n)
	}
	check(t, p, []post.Letter{{To: 1, P: []byte("a")}, {To: 1, P: []byte("a")}})
}

// P18.1: what is sent is the last; to any party, alike ones too.
func TestSend(t *testing.T) {
	p := &post.Post{}
	var want []post.Letter
	for to := range 256 {
		l := post.Letter{To: byte(to), P: bytes.Repeat([]byte{byte(255 - to), 0}, to%3)}
		for range 2 {
			p.Send(l.To, l.P)
			want = append(want, l)
			if n := p.Len(); n != len(want) {
				t.Fatalf("Len() = %d; asked for is %d", n, len(want))
			}
		}
	}
	check(t, p, want)
}

// P18.1: of letters without bytes, nil or not, there is one each; and of long ones all bytes are there.
func TestAnyBytes(t *testing.T) {
	long := bytes.Repeat([]byte("long "), 1<<20)
	p := &post.Post{}
	p.Send(1, nil)
	p.Send(2, []byte{})
	p.Send(3, long)
	p.Send(4, long[:1])
	check(t, p, []post.Letter{{To: 1}, {To: 2}, {To: 3, P: long}, {To: 4, P: []byte("l")}})
}

// numbers are those that are held against a post of n letters: all near it, and wild ones.
func numbers(n int) []int {
	l := slices.Clone(wild)
	for i := -3*n - 1; i <= 3*n+1; i++ {
		l = append(l, i)
	}
	return l
}

// P18.1: Take is the i-th letter, i modulo how many there are; Lose is without it likewise; the others stay in their order.
func TestTakeAndLose(t *testing.T) {
	for _, n := range []int{1, 2, 3, 4, 5, 7, 16, 33} {
		for _, i := range numbers(n) {
			l := letters(n)
			p, q := sent(l), sent(l)
			at := mod(i, n)
			if x, e := p.Take(i); e != api.OK || !alike(x, l[at]) {
				t.Fatalf("Take(%d) of %d = %q, %d; asked for is %q", i, n, x, e, l[at])
			}
			if e := q.Lose(i); e != api.OK {
				t.Fatalf("Lose(%d) of %d = %d", i, n, e)
			}
			l = slices.Delete(l, at, at+1)
			check(t, p, l)
			check(t, q, l)
		}
	}
}

// P18.1: Double is the i-th letter once more, as the last; it stays where it is, too.
func TestDouble(t *testing.T) {
	for _, n := range []int{1, 2, 3, 4, 5, 7, 16, 33} {
		for _, i := range numbers(n) {
			l := letters(n)
			p := sent(l)
			if e := p.Double(i); e != api.OK {
				t.Fatalf("Double(%d) of %d = %d", i, n, e)
			}
			check(t, p, append(l, l[mod(i, n)]))
		}
	}
}

// P18.1: Most letters are under way at most.
func TestMostIs512(t *testing.T) {
	if post.Most != 512 {
		t.Errorf("Most = %d", post.Most)
	}
}

// P18.1: of more than Most letters the first ones are no more.
func TestMost(t *testing.T) {
	for _, n := range []int{511, 512, 513, 514, 700, 1023, 1024, 1025, 2000} {
		l := letters(n)
		check(t, sent(l), l[max(n-512, 0):])
	}
}

// P18.1: so it is by a Double of one of Most letters, of the first one too.
func TestDoubleAtMost(t *testing.T) {
	for _, i := range append(slices.Clone(wild), 100, 255, 256, 257, 300, 510) {
		l := letters(512)
		p := sent(l)
		if e := p.Double(i); e != api.OK {
			t.Fatalf("Double(%d) = %d", i, e)
		}
		check(t, p, append(l[1:], l[mod(i, 512)]))
	}
}

// P18.1: of Most letters the i-th is taken, and lost, as of any others; for one that is no more there is room for another.
func TestTakeAtMost(t *testing.T) {
	for _, i := range append(slices.Clone(wild), 100, 255, 256, 257, 300) {
		for _, more := range []int{0, 1, 2} {
			l := letters(512)
			p, q := sent(l), sent(l)
			at := mod(i, 512)
			if x, e := p.Take(i); e != api.OK || !alike(x, l[at]) {
				t.Fatalf("Take(%d) = %q, %d; asked for is %q", i, x, e, l[at])
			}
			if e := q.Lose(i); e != api.OK {
				t.Fatalf("Lose(%d) = %d", i, e)
			}
			l = slices.Delete(l, at, at+1)
			for j := range more {
				x := letter(1000 + j)
				p.Send(x.To, x.P)
				q.Send(x.To, x.P)
				l = append(l, x)
			}
			check(t, p, l[max(len(l)-512, 0):])
			check(t, q, l[max(len(l)-512, 0):])
		}
	}
}

// Rule of memory: what is handed in isn't changed, and may be written over.
func TestHandedIn(t *testing.T) {
	p := &post.Post{}
	all := []byte("abcdef")
	p.Send(1, all[1:3])
	p.Send(2, all[:0])
	p.Double(0)
	for range 3 {
		x, _ := p.Take(0)
		x.P = append(x.P, "XYZ"...)
		x.P[0] = 'W'
		p.Send(3, x.P)
	}
	if string(all) != "abcdef" {
		t.Errorf("what was handed in is %q", all)
	}
	p = &post.Post{}
	p.Send(1, all[1:3])
	p.Double(0)
	p.Send(2, all)
	copy(all, "ZZZZZZ")
	check(t, p, []post.Letter{{To: 1, P: []byte("bc")}, {To: 1, P: []byte("bc")}, {To: 2, P: []byte("abcdef")}})
}

// Rule of memory: what is told may be written over, and appended to; no other letter is another one by that, nor is what was told before by later calls.
func TestTold(t *testing.T) {
	for n := 1; n <= 9; n++ {
		for i := range n {
			l := letters(n)
			p := sent(l)
			p.Double(i)
			p.Double(i)
			l = append(l, l[i], l[i])
			x, _ := p.Take(i)
			l = slices.Delete(l, i, i+1)
			told := bytes.Clone(x.P)
			check(t, p, l)
			p.Double(-1)
			p.Lose(-1)
			if !bytes.Equal(x.P, told) {
				t.Fatalf("what was told is %q; it was %q", x.P, told)
			}
			for j := range x.P {
				x.P[j] = '#'
			}
			x.P = append(x.P, "and all that is behind it"...)
			check(t, p, l)
		}
	}
}

// What was taken isn't kept by a post, wherever in it that was, and wherever one was taken before.
func TestTakenIsNotKept(t *testing.T) {
	for i := range 5 {
		for j := range 4 {
			p := &post.Post{}
			for range 5 {
				p.Send(0, make([]byte, 1000))
			}
			x, _ := p.Take(i)
			y, _ := p.Take(j)
			kept := []weak.Pointer[byte]{weak.Make(&x.P[0]), weak.Make(&y.P[0])}
			runtime.GC()
			for k, w := range kept {
				if w.Value() != nil {
					t.Errorf("of those that were taken at %d and %d a post keeps the one of place %d", i, j, k)
				}
			}
			if n := p.Len(); n != 3 {
				t.Errorf("Len() = %d", n)
			}
		}
	}
}

// P1, P18.1: of a nil Post: nothing, ErrNone, 0.
func TestNil(t *testing.T) {
	var p *post.Post
	empty(t, p)
	p.Send(1, []byte("hi"))
	p.Send(0, nil)
	empty(t, p)
}
