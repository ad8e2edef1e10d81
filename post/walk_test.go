package post_test

import (
	"math/rand"
	"slices"
	"testing"

	"paybook/api"
	"paybook/post"
)

// A bag is letters under way, each act of it told slowly.
type bag []post.Letter

func (b *bag) send(l post.Letter) {
	*b = append(*b, l)
	for len(*b) > 512 {
		*b = slices.Delete(*b, 0, 1)
	}
}

func (b *bag) take(i int) post.Letter {
	at := mod(i, len(*b))
	l := (*b)[at]
	*b = slices.Delete(*b, at, at+1)
	return l
}

// number is one that names a letter: mostly near 0, at times any.
func number(r *rand.Rand) int {
	if r.Intn(4) == 0 {
		return int(r.Uint64())
	}
	return r.Intn(2000) - 1000
}

// act: one act of a post, and of another beside it, held against the bag's. Of ten so many are Sends and Doubles.
func act(t *testing.T, r *rand.Rand, n, sends int, p, beside *post.Post, b *bag) {
	t.Helper()
	i := number(r)
	want := api.ErrNone
	if len(*b) > 0 {
		want = api.OK
	}
	switch k := r.Intn(10); {
	case k < sends && k%2 == 0:
		l := letter(n)
		b.send(l)
		p.Send(l.To, l.P)
		beside.Send(l.To, l.P)
	case k < sends:
		if want == api.OK {
			b.send((*b)[mod(i, len(*b))])
		}
		if e, f := p.Double(i), beside.Double(i); e != want || f != want {
			t.Fatalf("Double(%d) = %d, %d; asked for is %d", i, e, f, want)
		}
	case k%2 == 0:
		var l post.Letter
		if want == api.OK {
			l = b.take(i)
		}
		x, e := p.Take(i)
		y, f := beside.Take(i)
		if e != want || f != want || !alike(x, l) || !alike(y, l) {
			t.Fatalf("Take(%d) = %q, %d; %q, %d; asked for is %q, %d", i, x, e, y, f, l, want)
		}
	default:
		if want == api.OK {
			b.take(i)
		}
		if e, f := p.Lose(i), beside.Lose(i); e != want || f != want {
			t.Fatalf("Lose(%d) = %d, %d; asked for is %d", i, e, f, want)
		}
	}
	if p.Len() != len(*b) || beside.Len() != len(*b) {
		t.Fatalf("Len() = %d, %d; asked for is %d", p.Len(), beside.Len(), len(*b))
	}
}

// P18.1, P2: any acts, held one by one against the bag; a post beside it to which the same is done answers the same.
func TestWalks(t *testing.T) {
	r := rand.New(rand.NewSource(18))
	full, none := 0, 0
	for range 150 {
		var p, beside post.Post
		var b bag
		for n := range r.Intn(600) {
			l := letter(2000 + n)
			b.send(l)
			p.Send(l.To, l.P)
			beside.Send(l.To, l.P)
		}
		for part := range 6 {
			sends := 3 + r.Intn(6)
			for n := range 200 {
				act(t, r, 200*part+n, sends, &p, &beside, &b)
				if len(b) == 512 {
					full++
				}
				if len(b) == 0 {
					none++
				}
			}
		}
		check(t, &p, b)
		check(t, &beside, b)
	}
	if full < 1000 || none < 1000 {
		t.Errorf("%d times there were Most letters, %d times none", full, none)
	}
}
