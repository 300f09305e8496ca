package httpdate_test

import (
	"math/big"
	"regexp"
	"strconv"
	"strings"
	"time"

	"quayside/api"
)

// The functions of this file say the same as chapter 4 in another way, by a
// regular expression, by whole numbers of any size, and by the calendar of
// package time (which never reads the machine's clock here), so that the tests
// can compare the package with them. They need not be fast.

const (
	layout   = "Mon, 02 Jan 2006 15:04:05 GMT"
	weekdays = "SunMonTueWedThuFriSat"
	months   = "JanFebMarAprMayJunJulAugSepOctNovDec"
)

var datePattern = regexp.MustCompile(`\A([A-Z][a-z]{2}), ([0-9]{2}) ([A-Z][a-z]{2}) ([0-9]{4}) ([01][0-9]|2[0-3]):([0-5][0-9]):([0-5][0-9]) GMT\z`)

func referenceFormat(seconds int) (string, error) {
	if seconds <= -1 || seconds >= 253402300800 {
		return "", api.ErrRange
	}
	return time.Unix(int64(seconds), 0).UTC().Format(layout), nil
}

func referenceParse(s string) (int, error) {
	m := datePattern.FindStringSubmatch(s)
	if m == nil {
		return 0, api.ErrForm
	}
	day, err := referenceDay(whole(m[4]), place(months, m[3]), whole(m[2]))
	if err != nil || referenceWeekday(day)+1 != place(weekdays, m[1]) {
		return 0, api.ErrForm
	}
	return 60*(60*(24*day+whole(m[5]))+whole(m[6])) + whole(m[7]), nil
}

func whole(s string) int {
	n, err := strconv.Atoi(s)
	if err != nil {
		panic(err)
	}
	return n
}

// place returns the number of the name in a list of names of three letters,
// counted from 1, or 0.
func place(list, name string) int {
	at := strings.Index(list, name)
	if at < 0 || at%3 != 0 {
		return 0
	}
	return at/3 + 1
}

func referenceDay(y, m, d int) (int, error) {
	if y <= 1969 || y >= 10000 || m <= 0 || m >= 13 || d <= 0 || d >= 32 {
		return 0, api.ErrRange
	}
	// Package time takes the 30th of February for a day in March.
	date := time.Date(y, time.Month(m), d, 0, 0, 0, 0, time.UTC)
	if date.Day() != d {
		return 0, api.ErrRange
	}
	return int(date.Unix() / (24 * 60 * 60)), nil
}

func referenceDate(day int) (y, m, d int, err error) {
	if day <= -1 || day >= 2932897 {
		return 0, 0, 0, api.ErrRange
	}
	date := time.Date(1970, time.January, 1, 0, 0, 0, 0, time.UTC).AddDate(0, 0, day)
	return date.Year(), int(date.Month()), date.Day(), nil
}

func referenceWeekday(day int) int {
	sum := new(big.Int).Add(big.NewInt(int64(day)), big.NewInt(int64(time.Thursday)))
	return int(sum.Mod(sum, big.NewInt(7)).Int64())
}

func referenceFloor(ticks int) int {
	switch {
	case ticks < 0:
		return 0
	case ticks > 1099511627776:
		return 1099511627
	}
	return (ticks - ticks%1000) / 1000
}
