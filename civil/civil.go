// Package civil is layer 1: see shared/doc/01-civil.md.
package civil

import (
	"strconv"
	"strings"

	"paybook/api"
)

const (
	lastYear    = 9999
	longestYear = 366
	textBytes   = len("0001-01-01")
)

// Leap: has a year 366 days?
func Leap(year int) bool {
	return year%4 == 0 && year%100 != 0 || year%400 == 0
}

// Month: how many days a month has; 0: there is none.
func Month(year, month int) int {
	switch month {
	case 1, 3, 5, 7, 8, 10, 12:
		return 31
	case 4, 6, 9, 11:
		return 30
	case 2:
		if Leap(year) {
			return 29
		}
		return 28
	}
	return 0
}

// Right: is there such a day, of the years 1 to 9999?
func Right(d api.Date) bool {
	// A month that there isn't has no days, so no day of it is right.
	return d.Year >= 1 && d.Year <= lastYear && d.Day >= 1 && d.Day <= Month(d.Year, d.Month)
}

// Number: a day's number: 0001-01-01 is 0. ErrArg: there is no such day.
func Number(d api.Date) (int, api.Errno) {
	if !Right(d) {
		return 0, api.ErrArg
	}
	n := yearStart(d.Year)
	for m := 1; m < d.Month; m++ {
		n += Month(d.Year, m)
	}
	return n + d.Day - 1, api.OK
}

// Of: the day of a number. ErrArg: there is none.
func Of(n int) (api.Date, api.Errno) {
	if n < 0 || n > api.MaxDay {
		return api.Date{}, api.ErrArg
	}
	// As if all years were long: that is never a year too late, and some twenty too early at most.
	year := n/longestYear + 1
	for yearStart(year+1) <= n {
		year++
	}
	rest := n - yearStart(year)
	month := 1
	for rest >= Month(year, month) {
		rest -= Month(year, month)
		month++
	}
	return api.Date{Year: year, Month: month, Day: rest + 1}, api.OK
}

// yearStart is the number of the first day of a year from 1 on.
func yearStart(year int) int {
	past := year - 1
	return past*365 + past/4 - past/100 + past/400
}

// Weekday: of a number: 0 is a Monday.
func Weekday(n int) int {
	return (n%7 + 7) % 7 // what % leaves of a number below 0 isn't above 0
}

// Clamp: the day of a month, or its last one. (Of a month that there is.)
func Clamp(year, month, day int) api.Date {
	return api.Date{Year: year, Month: month, Day: max(1, min(day, Month(year, month)))}
}

// Text: a day as a text: four digits, two, two.
func Text(d api.Date) string {
	return padded(d.Year, 4) + "-" + padded(d.Month, 2) + "-" + padded(d.Day, 2)
}

// padded is a number with noughts ahead of it, up to a width.
func padded(n, width int) string {
	s := strconv.Itoa(n)
	return strings.Repeat("0", max(0, width-len(s))) + s
}

// Parse: and back. ErrForm: it is no such text; ErrArg: there is no such day.
func Parse(s string) (api.Date, api.Errno) {
	numbers, ok := numbersOf(s)
	if !ok {
		return api.Date{}, api.ErrForm
	}
	d := api.Date{Year: numbers[0], Month: numbers[1], Day: numbers[2]}
	if !Right(d) {
		return api.Date{}, api.ErrArg
	}
	return d, api.OK
}

// numbersOf is the three numbers of a text of a day's form; false: it isn't of that form.
func numbersOf(s string) ([3]int, bool) {
	if len(s) != textBytes {
		return [3]int{}, false
	}
	var numbers [3]int
	at, read := 0, 0
	// A rune of more than a byte is no digit and no -, so up to a fault bytes and runes are at one.
runes:
	for i, r := range s {
		dash := i == 4 || i == 7
		switch {
		case dash && r == '-':
			at++
		case !dash && '0' <= r && r <= '9':
			numbers[at] = numbers[at]*10 + int(r-'0')
		default:
			break runes
		}
		read++
	}
	if read < textBytes {
		return [3]int{}, false
	}
	return numbers, true
}
