package civil_test

import (
	"math"
	"strings"
	"testing"
	"time"

	"paybook/api"
	"paybook/civil"
)

var extremes = []int{math.MinInt, math.MinInt + 1, math.MinInt32, -400, -100, -7, -4, -1, 0, 1, 2, 12, 13, 28, 29, 30, 31, 32, 1900, 2000, 9999, 10000, api.MaxDay, api.MaxDay + 1, math.MaxInt32, math.MaxInt - 1, math.MaxInt}

func date(year, month, day int) api.Date {
	return api.Date{Year: year, Month: month, Day: day}
}

// P1.1: Leap.
func TestLeap(t *testing.T) {
	for year, want := range map[int]bool{
		1: false, 4: true, 100: false, 200: false, 300: false, 400: true, 1896: true, 1900: false, 1904: true,
		1999: false, 2000: true, 2001: false, 2002: false, 2003: false, 2004: true, 2100: false, 9996: true, 9999: false,
		0: true, -1: false, -4: true, -100: false, -400: true, 10000: true, 10100: false,
		math.MinInt: true, math.MaxInt: false,
	} {
		if got := civil.Leap(year); got != want {
			t.Errorf("Leap(%d) = %t", year, got)
		}
	}
}

// P1.1: Month.
func TestMonth(t *testing.T) {
	common := []int{0, 31, 28, 31, 30, 31, 30, 31, 31, 30, 31, 30, 31, 0}
	for month, want := range common {
		for _, year := range []int{1, 1900, 2023, 9999, -1, 0x7fffffff} {
			if got := civil.Month(year, month); got != want {
				t.Errorf("Month(%d, %d) = %d", year, month, got)
			}
		}
		if month == 2 {
			want = 29
		}
		for _, year := range []int{4, 2000, 2024, 0, -4} {
			if got := civil.Month(year, month); got != want {
				t.Errorf("Month(%d, %d) = %d", year, month, got)
			}
		}
	}
	for _, month := range []int{math.MinInt, -2, -1, 0, 13, 14, 256 + 1, math.MaxInt} {
		if got := civil.Month(2024, month); got != 0 {
			t.Errorf("Month(2024, %d) = %d", month, got)
		}
	}
}

// P1.1: Right, and Number's error, beside which the number is 0.
func TestRight(t *testing.T) {
	for d, want := range map[api.Date]bool{
		date(1, 1, 1):              true,
		date(9999, 12, 31):         true,
		date(2024, 2, 29):          true,
		date(2000, 2, 29):          true,
		date(2023, 4, 30):          true,
		date(2023, 2, 28):          true,
		date(0, 1, 1):              false,
		date(0, 12, 31):            false,
		date(-1, 1, 1):             false,
		date(10000, 1, 1):          false,
		date(2023, 0, 1):           false,
		date(2023, 13, 1):          false,
		date(2023, -1, 1):          false,
		date(2023, 1, 0):           false,
		date(2023, 13, 0):          false,
		date(2023, 1, -1):          false,
		date(2023, 1, 32):          false,
		date(2023, 4, 31):          false,
		date(2023, 2, 29):          false,
		date(2024, 2, 30):          false,
		date(1900, 2, 29):          false,
		date(math.MaxInt, 1, 1):    false,
		date(2023, math.MaxInt, 1): false,
		date(2023, 1, math.MaxInt): false,
		date(math.MinInt, math.MinInt, math.MinInt): false,
		{}: false,
	} {
		if got := civil.Right(d); got != want {
			t.Errorf("Right(%v) = %t", d, got)
		}
		n, e := civil.Number(d)
		if want && e != api.OK || !want && (e != api.ErrArg || n != 0) {
			t.Errorf("Number(%v) = %d, %d", d, n, e)
		}
	}
}

// P1.1 and P1.2: every day there is, held against the library's calendar: Number, Of, Weekday, Right, Text, Parse.
func TestEveryDay(t *testing.T) {
	day := time.Date(1, 1, 1, 0, 0, 0, 0, time.UTC)
	for n := 0; n <= api.MaxDay; n++ {
		year, month, of := day.Date()
		want := date(year, int(month), of)
		if d, e := civil.Of(n); d != want || e != api.OK {
			t.Fatalf("Of(%d) = %v, %d", n, d, e)
		}
		if m, e := civil.Number(want); m != n || e != api.OK {
			t.Fatalf("Number(%v) = %d, %d", want, m, e)
		}
		if got := civil.Weekday(n); got != (int(day.Weekday())+6)%7 {
			t.Fatalf("Weekday(%d) = %d", n, got)
		}
		if !civil.Right(want) {
			t.Fatalf("Right(%v)", want)
		}
		if s := civil.Text(want); s != day.Format(time.DateOnly) {
			t.Fatalf("Text(%v) = %q", want, s)
		} else if d, e := civil.Parse(s); d != want || e != api.OK {
			t.Fatalf("Parse(%q) = %v, %d", s, d, e)
		}
		day = day.AddDate(0, 0, 1)
	}
	if day.Year() != 10000 {
		t.Errorf("MaxDay isn't the last day")
	}
}

// P1.1: Number and Of, of days that the document names.
func TestNumberOfKnownDays(t *testing.T) {
	for d, want := range map[api.Date]int{date(1, 1, 1): 0, date(1970, 1, 1): 719162, date(9999, 12, 31): api.MaxDay} {
		if n, e := civil.Number(d); n != want || e != api.OK {
			t.Errorf("Number(%v) = %d, %d", d, n, e)
		}
		if got, e := civil.Of(want); got != d || e != api.OK {
			t.Errorf("Of(%d) = %v, %d", want, got, e)
		}
	}
}

// P1.1: Of's error, beside which there is no day.
func TestOfNoDay(t *testing.T) {
	for _, n := range []int{math.MinInt, -366, -1, api.MaxDay + 1, api.MaxDay + 366, math.MaxInt} {
		if d, e := civil.Of(n); d != (api.Date{}) || e != api.ErrArg {
			t.Errorf("Of(%d) = %v, %d", n, d, e)
		}
	}
}

// P1.1: Weekday, from 0 on of every number.
func TestWeekday(t *testing.T) {
	for n, want := range map[int]int{0: 0, 1: 1, 6: 6, 7: 0, 8: 1, 719162: 3, -1: 6, -6: 1, -7: 0, -8: 6, api.MaxDay: 4, math.MaxInt64: 0, math.MinInt64: 6} {
		if got := civil.Weekday(n); got != want {
			t.Errorf("Weekday(%d) = %d", n, got)
		}
	}
}

// P1.1: Clamp.
func TestClamp(t *testing.T) {
	for d, want := range map[api.Date]int{
		date(2024, 2, 31): 29, date(2024, 2, 30): 29, date(2024, 2, 29): 29, date(2024, 2, 28): 28,
		date(2023, 2, 31): 28, date(2023, 2, 29): 28, date(1900, 2, 29): 28, date(2000, 2, 29): 29,
		date(2023, 4, 31): 30, date(2023, 4, 30): 30, date(2023, 1, 31): 31, date(2023, 1, 32): 31, date(2023, 12, 99): 31,
		date(2023, 5, 1): 1, date(2023, 5, 0): 1, date(2023, 5, -1): 1, date(2023, 5, 15): 15,
		date(2023, 6, math.MinInt): 1, date(2023, 6, math.MaxInt): 30,
		date(0, 2, 31): 29, date(-1, 2, 31): 28, date(10000, 2, 31): 29, date(math.MaxInt, 2, 31): 28,
	} {
		if got := civil.Clamp(d.Year, d.Month, d.Day); got != date(d.Year, d.Month, want) {
			t.Errorf("Clamp(%v) = %v", d, got)
		}
	}
}

// P1.2: Text, with noughts ahead.
func TestText(t *testing.T) {
	for d, want := range map[api.Date]string{
		date(1, 1, 1): "0001-01-01", date(12, 3, 4): "0012-03-04", date(123, 10, 9): "0123-10-09", date(2024, 12, 31): "2024-12-31", date(9999, 12, 31): "9999-12-31",
	} {
		if got := civil.Text(d); got != want {
			t.Errorf("Text(%v) = %q", d, got)
		}
	}
}

// P1.2: Parse's errors, beside which there is no day: the form goes ahead of the day.
func TestParseErrors(t *testing.T) {
	for s, want := range map[string]api.Errno{
		"":                         api.ErrForm,
		"-":                        api.ErrForm,
		"--":                       api.ErrForm,
		"2023":                     api.ErrForm,
		"2023-02-0":                api.ErrForm,
		"2023-02-011":              api.ErrForm,
		"2023-02-01 ":              api.ErrForm,
		" 2023-02-01":              api.ErrForm,
		"2023-02-01\n":             api.ErrForm,
		"2023-2-01":                api.ErrForm,
		"2023-2-001":               api.ErrForm,
		"023-002-01":               api.ErrForm,
		"20230-2-01":               api.ErrForm,
		"2023/02/01":               api.ErrForm,
		"2023-02/01":               api.ErrForm,
		"2023/02-01":               api.ErrForm,
		"2023002001":               api.ErrForm,
		"----------":               api.ErrForm,
		"-023-02-01":               api.ErrForm,
		"+023-02-01":               api.ErrForm,
		"2023--1-01":               api.ErrForm,
		"2023-+1-01":               api.ErrForm,
		"2023-13-4x":               api.ErrForm,
		"0000-00-0x":               api.ErrForm,
		"2023-02- 1":               api.ErrForm,
		"2023-02-\u00e9":           api.ErrForm,
		"\u00e923-02-01":           api.ErrForm,
		"2023\u20130201":           api.ErrForm,
		"2023-02-0\u0661":          api.ErrForm,
		"\uff12\uff10\uff12\uff13": api.ErrForm,
		"\u0662\u0660\u0662\u0663-\u0660\u0662-\u0660\u0661": api.ErrForm,
		"2023-02-0\xff":                      api.ErrForm,
		"\xff\xfe\xfd\xfc\xfb\xfa\xc0\x80-0": api.ErrForm,
		strings.Repeat("9", 1000):            api.ErrForm,
		"0000-01-01":                         api.ErrArg,
		"0000-00-00":                         api.ErrArg,
		"2023-00-01":                         api.ErrArg,
		"2023-13-01":                         api.ErrArg,
		"2023-01-00":                         api.ErrArg,
		"2023-01-32":                         api.ErrArg,
		"2023-04-31":                         api.ErrArg,
		"2023-02-29":                         api.ErrArg,
		"2024-02-30":                         api.ErrArg,
		"1900-02-29":                         api.ErrArg,
		"9999-99-99":                         api.ErrArg,
	} {
		if d, e := civil.Parse(s); e != want || d != (api.Date{}) {
			t.Errorf("Parse(%q) = %v, %d", s, d, e)
		}
	}
}

// P1.2: any other byte in any place of a right text: it must be a digit among the digits, and - between.
func TestParseEveryByte(t *testing.T) {
	const right = "2011-11-11"
	for at := range len(right) {
		for b := range 256 {
			p := []byte(right)
			p[at] = byte(b)
			formed := b >= '0' && b <= '9'
			if right[at] == '-' {
				formed = b == '-'
			}
			d, e := civil.Parse(string(p))
			switch {
			case !formed && (e != api.ErrForm || d != (api.Date{})):
				t.Errorf("Parse(%q) = %v, %d", p, d, e)
			case formed && e == api.OK && civil.Text(d) != string(p):
				t.Errorf("Parse(%q) = %v", p, d)
			case formed && e != api.OK && e != api.ErrArg:
				t.Errorf("Parse(%q): %d", p, e)
			}
		}
	}
}

// P1: none panics, whatever it is given.
func TestNonePanics(t *testing.T) {
	for _, a := range extremes {
		civil.Leap(a)
		civil.Of(a)
		civil.Weekday(a)
		for _, b := range extremes {
			civil.Month(a, b)
			for _, c := range extremes {
				civil.Right(date(a, b, c))
				civil.Number(date(a, b, c))
				civil.Clamp(a, b, c)
				civil.Text(date(a, b, c))
			}
		}
	}
	for n := range 40 {
		civil.Parse(strings.Repeat("\xff", n))
		civil.Parse(strings.Repeat("-", n))
		civil.Parse(strings.Repeat("9", n))
		civil.Parse(strings.Repeat("\u0669", n))
	}
}

// P2: an answer depends on its arguments alone, not on what was asked ahead of it, nor in what order.
func TestAnswersDependOnArguments(t *testing.T) {
	type answer struct {
		d       api.Date
		n, w    int
		s       string
		e, f, g api.Errno
	}
	ask := func(i int) answer {
		var a answer
		a.d, a.e = civil.Of(i)
		a.n, a.f = civil.Number(a.d)
		a.s, a.w = civil.Text(a.d), civil.Weekday(i)
		_, a.g = civil.Parse(a.s)
		return a
	}
	numbers := []int{0, 58, 59, 719162, 730178, api.MaxDay, -1, api.MaxDay + 1}
	var first []answer
	for _, n := range numbers {
		first = append(first, ask(n))
		civil.Parse("2023-02-29")
		civil.Parse("no day")
	}
	for i := len(numbers) - 1; i >= 0; i-- {
		if got := ask(numbers[i]); got != first[i] {
			t.Errorf("%d: %v, then %v", numbers[i], first[i], got)
		}
	}
}
