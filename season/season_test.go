package season_test

import (
	"math"
	"testing"
	"time"

	"paybook/api"
	"paybook/civil"
	"paybook/season"
)

const lastUnit = api.Years

// day is the number of a day that is told as a text.
func day(t *testing.T, s string) int {
	t.Helper()
	d, e := civil.Parse(s)
	n, f := civil.Number(d)
	if e != api.OK || f != api.OK {
		t.Fatalf("no day: %q", s)
	}
	return n
}

// text is a day of a number as a text.
func text(n int) string {
	d, _ := civil.Of(n)
	return civil.Text(d)
}

// begin is the day of a period by the library's calendar; false: it is behind the last day.
func begin(anchor int, unit byte, every, n int) (int, bool) {
	first := time.Date(1, 1, 1+anchor, 0, 0, 0, 0, time.UTC)
	of := first.Day()
	var to time.Time
	switch unit {
	case api.Days:
		to = first.AddDate(0, 0, every*n)
	case api.Weeks:
		to = first.AddDate(0, 0, 7*every*n)
	default:
		months := every * n
		if unit == api.Years {
			months *= 12
		}
		last := time.Date(first.Year(), first.Month()+time.Month(months)+1, 0, 0, 0, 0, 0, time.UTC)
		to = last.AddDate(0, 0, min(of, last.Day())-last.Day())
	}
	if to.Year() > 9999 {
		return 0, false
	}
	return int(to.Unix()/86400) + 719162, true
}

// P2.1: Right.
func TestRight(t *testing.T) {
	for unit := range 256 {
		for every, want := range map[int]bool{math.MinInt: false, -1: false, 0: false, 1: true, 2: true, 999: true, api.MaxEvery: true, api.MaxEvery + 1: false, math.MaxInt: false, 1<<32 + 1: false} {
			want = want && unit <= int(lastUnit)
			if got := season.Right(byte(unit), every); got != want {
				t.Errorf("Right(%d, %d) = %t", unit, every, got)
			}
		}
	}
}

// P2.1: Nth of days, weeks, months and years; what was cut short once isn't later.
func TestNth(t *testing.T) {
	for _, c := range []struct {
		anchor string
		unit   byte
		every  int
		n      int
		want   string
	}{
		{"2023-01-31", api.Months, 1, 0, "2023-01-31"},
		{"2023-01-31", api.Months, 1, 1, "2023-02-28"},
		{"2023-01-31", api.Months, 1, 2, "2023-03-31"},
		{"2023-01-31", api.Months, 1, 3, "2023-04-30"},
		{"2023-01-31", api.Months, 1, 11, "2023-12-31"},
		{"2023-01-31", api.Months, 1, 12, "2024-01-31"},
		{"2023-01-31", api.Months, 1, 13, "2024-02-29"},
		{"2023-01-31", api.Months, 13, 1, "2024-02-29"},
		{"2023-01-30", api.Months, 1, 1, "2023-02-28"},
		{"2023-01-30", api.Months, 1, 2, "2023-03-30"},
		{"2023-12-31", api.Months, 1, 2, "2024-02-29"},
		{"2023-12-31", api.Months, 2, 1, "2024-02-29"},
		{"2024-02-29", api.Months, 1, 1, "2024-03-29"},
		{"2024-02-29", api.Months, 12, 1, "2025-02-28"},
		{"2024-02-29", api.Years, 1, 1, "2025-02-28"},
		{"2024-02-29", api.Years, 1, 4, "2028-02-29"},
		{"2024-02-29", api.Years, 4, 1, "2028-02-29"},
		{"2096-02-29", api.Years, 4, 1, "2100-02-28"},
		{"2096-02-29", api.Years, 4, 2, "2104-02-29"},
		{"2024-02-29", api.Days, 1, 1, "2024-03-01"},
		{"2024-02-29", api.Days, 366, 1, "2025-03-01"},
		{"2024-02-29", api.Weeks, 1, 1, "2024-03-07"},
		{"2024-02-29", api.Weeks, 2, 3, "2024-04-11"},
		{"0001-01-01", api.Days, 1, api.MaxDay, "9999-12-31"},
		{"0001-01-01", api.Years, 1, 9998, "9999-01-01"},
		{"0001-01-01", api.Months, 1, 9999*12 - 1, "9999-12-01"},
		{"9999-12-31", api.Months, 1, 0, "9999-12-31"},
		{"9999-11-30", api.Months, 1, 1, "9999-12-30"},
		{"9999-12-24", api.Weeks, 1, 1, "9999-12-31"},
		{"9998-12-31", api.Years, 1, 1, "9999-12-31"},
	} {
		got, e := season.Nth(day(t, c.anchor), c.unit, c.every, c.n)
		if e != api.OK || text(got) != c.want {
			t.Errorf("Nth(%s, %d, %d, %d) = %s, %d", c.anchor, c.unit, c.every, c.n, text(got), e)
		}
	}
}

// P2.1: ErrLong, at the first number of which the period begins behind MaxDay, and at all greater ones.
func TestNthLong(t *testing.T) {
	for _, c := range []struct {
		anchor string
		unit   byte
		every  int
		n      int
	}{
		{"9999-12-31", api.Days, 1, 1},
		{"9999-12-30", api.Days, 2, 1},
		{"9999-12-25", api.Weeks, 1, 1},
		{"9999-12-01", api.Months, 1, 1},
		{"9999-11-30", api.Months, 2, 1},
		{"9999-01-01", api.Years, 1, 1},
		{"9998-12-31", api.Years, 2, 1},
		{"0001-01-01", api.Months, 1, 9999 * 12},
		{"0001-01-01", api.Years, 1, 9999},
		{"0001-01-01", api.Years, 1000, 10},
		{"0001-01-02", api.Days, 1, api.MaxDay},
		{"0001-01-01", api.Days, 2, api.MaxDay},
		{"0001-01-01", api.Years, api.MaxEvery, api.MaxDay},
		{"0001-01-01", api.Weeks, api.MaxEvery, api.MaxDay},
		{"9999-12-31", api.Years, api.MaxEvery, api.MaxDay},
		// That many days, and months, are numbers that 32 bits would wrap to small ones.
		{"0001-01-01", api.Weeks, api.MaxEvery, 613567},
		{"0001-01-01", api.Years, api.MaxEvery, 357914},
	} {
		if got, e := season.Nth(day(t, c.anchor), c.unit, c.every, c.n); e != api.ErrLong || got != 0 {
			t.Errorf("Nth(%s, %d, %d, %d) = %d, %d", c.anchor, c.unit, c.every, c.n, got, e)
		}
	}
}

// P2.1 and P2.2: ErrArg of Nth, Count and Span, beside which there is no day and no number; it goes ahead of ErrLong and ErrNone.
func TestArguments(t *testing.T) {
	type arguments struct {
		anchor int
		unit   byte
		every  int
		last   int // n, or day
	}
	wrong := []arguments{
		{-1, api.Days, 1, 0}, {api.MaxDay + 1, api.Days, 1, 0}, {math.MinInt, api.Months, 1, 0}, {math.MaxInt, api.Years, 1, 0},
		{0, lastUnit + 1, 1, 0}, {0, 255, 1, 0},
		{0, api.Days, 0, 0}, {0, api.Days, -1, 0}, {0, api.Days, api.MaxEvery + 1, 0}, {0, api.Weeks, math.MinInt, 0}, {0, api.Months, math.MaxInt, 0},
		{0, api.Days, 1, -1}, {0, api.Days, 1, api.MaxDay + 1}, {0, api.Months, 1, math.MinInt}, {0, api.Years, 1, math.MaxInt},
		{api.MaxDay, api.Days, 1, -1}, {api.MaxDay, api.Days, 0, 5}, {api.MaxDay, 9, 1, 5}, {api.MaxDay, api.Days, 1, api.MaxDay + 1}, {api.MaxDay, api.Months, 1, api.MaxDay + 1},
		{5, api.Days, 1, -1}, {5, api.Days, 0, 4}, {5, 4, 1, 4},
	}
	for _, a := range wrong {
		if n, e := season.Nth(a.anchor, a.unit, a.every, a.last); n != 0 || e != api.ErrArg {
			t.Errorf("Nth(%v) = %d, %d", a, n, e)
		}
		if n, e := season.Count(a.anchor, a.unit, a.every, a.last); n != 0 || e != api.ErrArg {
			t.Errorf("Count(%v) = %d, %d", a, n, e)
		}
		if from, to, e := season.Span(a.anchor, a.unit, a.every, a.last); from != 0 || to != 0 || e != api.ErrArg {
			t.Errorf("Span(%v) = %d, %d, %d", a, from, to, e)
		}
	}
}

// P2.2: Count, at the first day of a period, and a day ahead of it.
func TestCount(t *testing.T) {
	for _, c := range []struct {
		anchor string
		unit   byte
		every  int
		day    string
		want   int
	}{
		{"2023-01-31", api.Months, 1, "0001-01-01", 0},
		{"2023-01-31", api.Months, 1, "2023-01-30", 0},
		{"2023-01-31", api.Months, 1, "2023-01-31", 1},
		{"2023-01-31", api.Months, 1, "2023-02-27", 1},
		{"2023-01-31", api.Months, 1, "2023-02-28", 2},
		{"2023-01-31", api.Months, 1, "2023-03-30", 2},
		{"2023-01-31", api.Months, 1, "2023-03-31", 3},
		{"2023-01-31", api.Months, 2, "2023-03-30", 1},
		{"2023-01-31", api.Months, 2, "2023-03-31", 2},
		{"2024-02-29", api.Years, 1, "2025-02-27", 1},
		{"2024-02-29", api.Years, 1, "2025-02-28", 2},
		{"2024-02-29", api.Years, 1, "2028-02-28", 4},
		{"2024-02-29", api.Years, 1, "2028-02-29", 5},
		{"2024-02-29", api.Weeks, 1, "2024-03-06", 1},
		{"2024-02-29", api.Weeks, 1, "2024-03-07", 2},
		{"2024-02-29", api.Days, 3, "2024-03-02", 1},
		{"2024-02-29", api.Days, 3, "2024-03-03", 2},
		{"0001-01-01", api.Days, 1, "9999-12-31", api.MaxDay + 1},
		{"0001-01-01", api.Months, 1, "9999-12-31", 9999 * 12},
		{"0001-01-01", api.Years, 1, "9999-12-31", 9999},
		{"0001-01-01", api.Years, 1000, "9999-12-31", 10},
		{"9999-12-31", api.Years, 1000, "9999-12-31", 1},
	} {
		got, e := season.Count(day(t, c.anchor), c.unit, c.every, day(t, c.day))
		if e != api.OK || got != c.want {
			t.Errorf("Count(%s, %d, %d, %s) = %d, %d", c.anchor, c.unit, c.every, c.day, got, e)
		}
	}
}

// P2.2: Span: the first day of a period is its own, the next one's isn't.
func TestSpan(t *testing.T) {
	for _, c := range []struct {
		anchor string
		unit   byte
		every  int
		day    string
		from   string
		to     string
	}{
		{"2023-01-31", api.Months, 1, "2023-01-31", "2023-01-31", "2023-02-28"},
		{"2023-01-31", api.Months, 1, "2023-02-27", "2023-01-31", "2023-02-28"},
		{"2023-01-31", api.Months, 1, "2023-02-28", "2023-02-28", "2023-03-31"},
		{"2023-01-31", api.Months, 1, "2023-03-30", "2023-02-28", "2023-03-31"},
		{"2024-02-29", api.Years, 1, "2025-04-01", "2025-02-28", "2026-02-28"},
		{"2024-02-29", api.Weeks, 2, "2024-03-20", "2024-03-14", "2024-03-28"},
		{"2024-02-29", api.Days, 10, "2024-03-09", "2024-02-29", "2024-03-10"},
		{"9999-11-30", api.Months, 1, "9999-12-29", "9999-11-30", "9999-12-30"},
		{"9999-12-30", api.Days, 1, "9999-12-30", "9999-12-30", "9999-12-31"},
		{"9998-12-31", api.Years, 1, "9999-12-30", "9998-12-31", "9999-12-31"},
	} {
		from, to, e := season.Span(day(t, c.anchor), c.unit, c.every, day(t, c.day))
		if e != api.OK || text(from) != c.from || text(to) != c.to {
			t.Errorf("Span(%s, %d, %d, %s) = %s, %s, %d", c.anchor, c.unit, c.every, c.day, text(from), text(to), e)
		}
	}
}

// P2.2: Span's errors, beside which there are no days.
func TestSpanErrors(t *testing.T) {
	for _, c := range []struct {
		anchor string
		unit   byte
		every  int
		day    string
		want   api.Errno
	}{
		{"2023-01-31", api.Months, 1, "2023-01-30", api.ErrNone},
		{"2023-01-31", api.Days, 1, "0001-01-01", api.ErrNone},
		{"9999-12-31", api.Days, 1, "9999-12-30", api.ErrNone},
		{"9999-12-31", api.Days, 1, "9999-12-31", api.ErrLong},
		{"9999-12-31", api.Months, 1, "9999-12-31", api.ErrLong},
		{"9999-11-30", api.Months, 1, "9999-12-30", api.ErrLong},
		{"9999-11-30", api.Months, 2, "9999-11-30", api.ErrLong},
		{"9998-12-31", api.Years, 1, "9999-12-31", api.ErrLong},
		{"9999-12-01", api.Weeks, 1, "9999-12-29", api.ErrLong},
		{"0001-01-01", api.Years, 1000, "9001-01-01", api.ErrLong},
		// There are MaxDay + 1 periods here.
		{"0001-01-01", api.Days, 1, "9999-12-31", api.ErrLong},
	} {
		from, to, e := season.Span(day(t, c.anchor), c.unit, c.every, day(t, c.day))
		if e != c.want || from != 0 || to != 0 {
			t.Errorf("Span(%s, %d, %d, %s) = %d, %d, %d", c.anchor, c.unit, c.every, c.day, from, to, e)
		}
	}
}

// P2.1 and P2.2: held against the library's calendar, from many days on, day by day.
func TestAgainstCalendar(t *testing.T) {
	anchors := []string{"0001-01-01", "1899-12-31", "1999-02-28", "2023-01-29", "2023-01-30", "2023-01-31", "2023-05-31", "2024-02-29", "2095-11-30", "9996-02-29", "9999-10-31"}
	for _, s := range anchors {
		anchor := day(t, s)
		for unit := api.Days; unit <= lastUnit; unit++ {
			for _, every := range []int{1, 2, 3, 5, 12, 13, 100} {
				walk(t, anchor, unit, every)
			}
		}
	}
}

// walk goes from some days ahead of an anchor on through years of days.
func walk(t *testing.T, anchor int, unit byte, every int) {
	t.Helper()
	count, from := 0, 0
	next, there := anchor, true
	for d := max(0, anchor-40); d <= min(api.MaxDay, anchor+3000); d++ {
		if there && d == next {
			count++
			from = next
			next, there = begin(anchor, unit, every, count)
			n, e := season.Nth(anchor, unit, every, count)
			if there && (n != next || e != api.OK) || !there && (n != 0 || e != api.ErrLong) {
				t.Fatalf("Nth(%s, %d, %d, %d) = %s, %d", text(anchor), unit, every, count, text(n), e)
			}
		}
		if n, e := season.Count(anchor, unit, every, d); n != count || e != api.OK {
			t.Fatalf("Count(%s, %d, %d, %s) = %d, %d", text(anchor), unit, every, text(d), n, e)
		}
		a, b, e := season.Span(anchor, unit, every, d)
		switch {
		case count == 0 && (a != 0 || b != 0 || e != api.ErrNone),
			count > 0 && !there && (a != 0 || b != 0 || e != api.ErrLong),
			count > 0 && there && (a != from || b != next || e != api.OK):
			t.Fatalf("Span(%s, %d, %d, %s) = %d, %d, %d", text(anchor), unit, every, text(d), a, b, e)
		}
	}
}

// P1: all calls end, and none panics, whatever it is given.
func TestNonePanics(t *testing.T) {
	numbers := []int{math.MinInt, math.MinInt32, -1, 0, 1, 2, 999, api.MaxEvery, api.MaxEvery + 1, api.MaxDay - 1, api.MaxDay, api.MaxDay + 1, math.MaxInt32, math.MaxInt}
	for _, unit := range []byte{0, 1, 2, 3, 4, 127, 128, 255} {
		for _, every := range numbers {
			season.Right(unit, every)
			for _, anchor := range numbers {
				for _, last := range numbers {
					season.Nth(anchor, unit, every, last)
					season.Count(anchor, unit, every, last)
					season.Span(anchor, unit, every, last)
				}
			}
		}
	}
}

// P2: the same arguments have the same answers, whatever was asked in between.
func TestAnswersDependOnArguments(t *testing.T) {
	anchor := day(t, "2023-01-31")
	ask := func() [5]int {
		n, e := season.Nth(anchor, api.Months, 1, 2)
		c, f := season.Count(anchor, api.Months, 1, anchor+70)
		from, to, g := season.Span(anchor, api.Months, 1, anchor+70)
		return [5]int{n, c, from, to, int(e) + int(f) + int(g)}
	}
	first := ask()
	season.Nth(anchor, api.Months, 1, 1)
	season.Nth(-1, 9, 0, -1)
	season.Span(0, api.Days, 1, api.MaxDay)
	if again := ask(); again != first {
		t.Errorf("%v, then %v", first, again)
	}
}
