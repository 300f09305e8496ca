package httpdate_test

import (
	"fmt"
	"math"
	"math/rand"
	"strings"
	"testing"

	"quayside/api"
	"quayside/httpdate"
	"quayside/samples"
)

const (
	daySeconds  = 24 * 60 * 60
	lastDay     = 2932896
	lastSeconds = 253402300799
)

// edges are the numbers at the ends of the ranges that chapter 4 names, and of an int.
var edges = []int{
	math.MinInt, math.MinInt + 1, math.MinInt / 2, -lastSeconds, -api.MaxTime, -lastDay, -daySeconds, -1001, -1000, -999, -7, -1,
	0, 1, 6, 7, 999, 1000, 1001, daySeconds - 1, daySeconds, daySeconds + 1,
	lastDay - 1, lastDay, lastDay + 1, lastSeconds - 1, lastSeconds, lastSeconds + 1, lastSeconds + daySeconds,
	api.MaxTime - 1, api.MaxTime, api.MaxTime + 1, math.MaxInt / 2, math.MaxInt - 1, math.MaxInt,
}

func compareFormat(t *testing.T, seconds int) {
	t.Helper()
	want, wantErr := referenceFormat(seconds)
	got, err := httpdate.Format(seconds)
	if got != want || err != wantErr {
		t.Errorf("Format(%d) = %q, %v; want %q, %v", seconds, got, err, want, wantErr)
	}
	if err != nil {
		return
	}
	if back, err := httpdate.Parse(got); back != seconds || err != nil { // P4.2
		t.Errorf("Parse(%q) = %d, %v; want %d", got, back, err, seconds)
	}
}

func compareParse(t *testing.T, s string) {
	t.Helper()
	want, wantErr := referenceParse(s)
	if got, err := httpdate.Parse(s); got != want || err != wantErr {
		t.Errorf("Parse(%q) = %d, %v; want %d, %v", s, got, err, want, wantErr)
	}
}

func compareDay(t *testing.T, y, m, d int) {
	t.Helper()
	want, wantErr := referenceDay(y, m, d)
	got, err := httpdate.Day(y, m, d)
	if got != want || err != wantErr {
		t.Errorf("Day(%d, %d, %d) = %d, %v; want %d, %v", y, m, d, got, err, want, wantErr)
	}
	if err != nil {
		return
	}
	if y2, m2, d2, err := httpdate.Date(got); y2 != y || m2 != m || d2 != d || err != nil { // P4.2
		t.Errorf("Date(%d) = %d, %d, %d, %v; want %d, %d, %d", got, y2, m2, d2, err, y, m, d)
	}
}

func compareDate(t *testing.T, day int) {
	t.Helper()
	wantY, wantM, wantD, wantErr := referenceDate(day)
	if y, m, d, err := httpdate.Date(day); y != wantY || m != wantM || d != wantD || err != wantErr {
		t.Errorf("Date(%d) = %d, %d, %d, %v; want %d, %d, %d, %v", day, y, m, d, err, wantY, wantM, wantD, wantErr)
	}
}

func compareWeekday(t *testing.T, day int) {
	t.Helper()
	if got, want := httpdate.Weekday(day), referenceWeekday(day); got != want {
		t.Errorf("Weekday(%d) = %d; want %d", day, got, want)
	}
}

func compareFloor(t *testing.T, ticks int) {
	t.Helper()
	if got, want := httpdate.Floor(ticks), referenceFloor(ticks); got != want {
		t.Errorf("Floor(%d) = %d; want %d", ticks, got, want)
	}
}

// compareNumber checks all functions of one number.
func compareNumber(t *testing.T, n int) {
	t.Helper()
	compareFormat(t, n)
	compareDate(t, n)
	compareWeekday(t, n)
	compareFloor(t, n)
}

func TestEdges(t *testing.T) { // P4.1, P4.2
	for _, n := range edges {
		compareNumber(t, n)
		for _, k := range edges {
			compareDay(t, n, k, 1)
			compareDay(t, n, 1, k)
			compareDay(t, 2000, n, k)
			compareDay(t, n, k, n)
		}
	}
}

func TestFormatAndParse(t *testing.T) { // P4.1, P4.2
	for _, c := range []struct {
		seconds int
		text    string
	}{
		{0, "Thu, 01 Jan 1970 00:00:00 GMT"},
		{1, "Thu, 01 Jan 1970 00:00:01 GMT"},
		{59, "Thu, 01 Jan 1970 00:00:59 GMT"},
		{60, "Thu, 01 Jan 1970 00:01:00 GMT"},
		{3599, "Thu, 01 Jan 1970 00:59:59 GMT"},
		{3600, "Thu, 01 Jan 1970 01:00:00 GMT"},
		{86399, "Thu, 01 Jan 1970 23:59:59 GMT"},
		{86400, "Fri, 02 Jan 1970 00:00:00 GMT"},
		{68169600, "Tue, 29 Feb 1972 00:00:00 GMT"},
		{784111777, "Sun, 06 Nov 1994 08:49:37 GMT"},
		{951782399, "Mon, 28 Feb 2000 23:59:59 GMT"},
		{951782400, "Tue, 29 Feb 2000 00:00:00 GMT"},
		{951868800, "Wed, 01 Mar 2000 00:00:00 GMT"},
		{978220800, "Sun, 31 Dec 2000 00:00:00 GMT"},
		{2147483647, "Tue, 19 Jan 2038 03:14:07 GMT"},
		{2147483648, "Tue, 19 Jan 2038 03:14:08 GMT"},
		{4107542399, "Sun, 28 Feb 2100 23:59:59 GMT"},
		{4107542400, "Mon, 01 Mar 2100 00:00:00 GMT"},
		{253402300799, "Fri, 31 Dec 9999 23:59:59 GMT"},
	} {
		if got, err := httpdate.Format(c.seconds); got != c.text || err != nil {
			t.Errorf("Format(%d) = %q, %v; want %q", c.seconds, got, err, c.text)
		}
		if got, err := httpdate.Parse(c.text); got != c.seconds || err != nil {
			t.Errorf("Parse(%q) = %d, %v; want %d", c.text, got, err, c.seconds)
		}
	}
	for _, seconds := range []int{-1, -86400, math.MinInt, 253402300800, math.MaxInt} {
		if got, err := httpdate.Format(seconds); got != "" || err != api.ErrRange {
			t.Errorf("Format(%d) = %q, %v; want ErrRange", seconds, got, err)
		}
	}
}

func TestParseRefuses(t *testing.T) { // P4.1
	const text = "Sun, 06 Nov 1994 08:49:37 GMT"
	for _, s := range []string{
		"", " ", "Sun", text[:28], text + " ", " " + text, text + "\n", text + text, text + "\x00", "S" + text[2:] + "T",
		// It was another day of the week, or none.
		"Mon, 06 Nov 1994 08:49:37 GMT", "Sat, 06 Nov 1994 08:49:37 GMT", "Son, 06 Nov 1994 08:49:37 GMT", "unM, 06 Nov 1994 08:49:37 GMT", "   , 06 Nov 1994 08:49:37 GMT",
		// Upper and lower case matter.
		"sun, 06 Nov 1994 08:49:37 GMT", "SUN, 06 Nov 1994 08:49:37 GMT", "Sun, 06 nov 1994 08:49:37 GMT", "Sun, 06 NOV 1994 08:49:37 GMT", "Sun, 06 Nov 1994 08:49:37 gmt",
		// There is no such month.
		"Sun, 06 Nob 1994 08:49:37 GMT", "Sun, 06 ovD 1994 08:49:37 GMT", "Sun, 06 011 1994 08:49:37 GMT", "Sun, 06     1994 08:49:37 GMT",
		// There are no such dates.
		"Thu, 00 Jan 1970 00:00:00 GMT", "Wed, 00 Jan 1970 00:00:00 GMT", "Sun, 32 Jan 1970 00:00:00 GMT", "Mon, 31 Apr 2001 00:00:00 GMT", "Tue, 31 Apr 2001 00:00:00 GMT",
		"Wed, 29 Feb 2001 00:00:00 GMT", "Thu, 29 Feb 2001 00:00:00 GMT", "Mon, 29 Feb 2100 00:00:00 GMT", "Wed, 30 Feb 2000 00:00:00 GMT", "Sun, 99 Nov 1994 08:49:37 GMT",
		// They are outside of the calendar.
		"Wed, 31 Dec 1969 23:59:59 GMT", "Thu, 31 Dec 1969 24:00:00 GMT", "Mon, 01 Jan 1900 00:00:00 GMT", "Sat, 01 Jan 0000 00:00:00 GMT", "Sat, 01 Jan 10000 00:00:00 GMT",
		"Fri, 31 Dec 9999 24:00:00 GMT", "Fri, 31 Dec 9999 23:59:60 GMT",
		// There are no such times of day.
		"Sun, 06 Nov 1994 24:00:00 GMT", "Mon, 07 Nov 1994 24:00:00 GMT", "Sun, 06 Nov 1994 24:49:37 GMT", "Sun, 06 Nov 1994 08:60:37 GMT", "Sun, 06 Nov 1994 08:49:60 GMT",
		"Sat, 31 Dec 2016 23:59:60 GMT", "Sun, 06 Nov 1994 99:99:99 GMT",
		// Numbers have digits alone, and all of them.
		"Sun, 6 Nov 1994 08:49:37 GMT", "Sun,  6 Nov 1994 08:49:37 GMT", "Sun, +6 Nov 1994 08:49:37 GMT", "Sun, 6  Nov 1994 08:49:37 GMT", "Sun, 06 Nov 94 08:49:37 GMT", "Sun, 06 Nov +994 08:49:37 GMT",
		"Sun, 06 Nov 1994 +8:49:37 GMT", "Sun, 06 Nov 1994 -8:49:37 GMT", "Sun, 06 Nov 1994 08:+9:37 GMT", "Sun, 06 Nov 1994 08:49:+7 GMT", "Sun, 06 Nov 1994 08:49:-1 GMT", "Sun, 06 Nov 1994 08:49:3  GMT",
		"Thu, 01 Jan 1970 00:00:-0 GMT", "Thu, 01 Jan 1970 00:-0:00 GMT", "Thu, 01 Jan 1970 +0:00:00 GMT", "Thu, 01 Jan 1970   :  :   GMT", "Thu, 01 Jan 1970 ab:cd:ef GMT", "Thu, 01 Jan 1970 :::::::: GMT",
		"Thu, +1 Jan 1970 00:00:00 GMT", "Sat, 01 Jan 2_00 00:00:00 GMT", "Sat, 01 Jan 0x7d 00:00:00 GMT", "Sun, \u0660\u0666 Nov 1994 08:49 GMT",
		// The rest is fixed.
		"Sun; 06 Nov 1994 08:49:37 GMT", "Sun,06 Nov 1994 08:49:37 GMT ", "Sun,\t06 Nov 1994 08:49:37 GMT", "Sun, 06-Nov-1994 08:49:37 GMT", "Sun, 06 Nov 1994T08:49:37 GMT", "Sun, 06 Nov 1994 08.49.37 GMT",
		"Sun, 06 Nov 1994 08:49:37 UTC", "Sun, 06 Nov 1994 08:49:37 UT ", "Sun, 06 Nov 1994 08:49:37 EST", "Sun, 06 Nov 1994 08:49:37-GMT", "Sun, 06 Nov 1994 08:49:37  GM", "Sun, 06 Nov 1994 08:49:37 +00",
		// These are the older formats of HTTP, and others.
		"Sunday, 06-Nov-94 08:49:37 GMT", "Sun Nov  6 08:49:37 1994", "Sun, 06 Nov 1994 08:49:37 +0000", "1994-11-06T08:49:37Z", "784111777", "06 Nov 1994 08:49:37 GMT",
		strings.Repeat(text, 1<<16), strings.Repeat("0", 1<<20),
	} {
		if got, err := httpdate.Parse(s); got != 0 || err != api.ErrForm {
			t.Errorf("Parse(%.60q) = %d, %v; want ErrForm", s, got, err)
		}
	}
}

func TestParseOfEachByteAtEachPlace(t *testing.T) { // P4.1
	for _, seconds := range []int{0, 784111777, 951868799, lastSeconds} {
		text, err := httpdate.Format(seconds)
		if err != nil {
			t.Fatal(err)
		}
		samples.Edits(text, func(s string) { compareParse(t, s) })
	}
}

func TestParseOfEachNumber(t *testing.T) { // P4.1
	numbers := []struct {
		at, digits int
	}{{5, 2}, {12, 4}, {17, 2}, {20, 2}, {23, 2}}
	for _, seconds := range []int{0, 784111777, lastSeconds} {
		text, err := httpdate.Format(seconds)
		if err != nil {
			t.Fatal(err)
		}
		for _, c := range numbers {
			for n := range int(math.Pow10(c.digits)) {
				compareParse(t, text[:c.at]+fmt.Sprintf("%0*d", c.digits, n)+text[c.at+c.digits:])
			}
		}
	}
}

func TestParseOfEachPairOfSomeBytes(t *testing.T) { // P4.1
	const text = "Thu, 01 Jan 1970 00:00:00 GMT"
	list := []byte("0123456789+-_ .:,aTx\x00\xff")
	for at := range len(text) - 1 {
		for _, c := range list {
			for _, d := range list {
				compareParse(t, text[:at]+string([]byte{c, d})+text[at+2:])
			}
		}
	}
}

func TestParseOfEachDate(t *testing.T) { // P4.1
	for _, y := range []int{0, 1600, 1900, 1969, 1970, 1972, 1999, 2000, 2001, 2100, 2400, 9999} {
		for month := 0; month < len(months); month += 3 {
			for d := range 34 {
				for weekday := 0; weekday < len(weekdays); weekday += 3 {
					compareParse(t, fmt.Sprintf("%s, %02d %s %04d 23:59:59 GMT", weekdays[weekday:weekday+3], d, months[month:month+3], y))
				}
			}
		}
	}
}

func TestDayAndDate(t *testing.T) { // P4.1, P4.2
	for _, c := range []struct{ y, m, d, day int }{
		{1970, 1, 1, 0},
		{1970, 1, 31, 30},
		{1970, 2, 1, 31},
		{1970, 2, 28, 58},
		{1970, 3, 1, 59},
		{1970, 12, 31, 364},
		{1971, 1, 1, 365},
		{1972, 2, 29, 789},
		{1972, 3, 1, 790},
		{1972, 12, 31, 1095},
		{1973, 1, 1, 1096},
		{1994, 11, 6, 9075},
		{2000, 2, 29, 11016},
		{2000, 3, 1, 11017},
		{2100, 2, 28, 47540},
		{2100, 3, 1, 47541},
		{9999, 12, 31, 2932896},
	} {
		if got, err := httpdate.Day(c.y, c.m, c.d); got != c.day || err != nil {
			t.Errorf("Day(%d, %d, %d) = %d, %v; want %d", c.y, c.m, c.d, got, err, c.day)
		}
		if y, m, d, err := httpdate.Date(c.day); y != c.y || m != c.m || d != c.d || err != nil {
			t.Errorf("Date(%d) = %d, %d, %d, %v; want %d, %d, %d", c.day, y, m, d, err, c.y, c.m, c.d)
		}
	}
}

func TestDayAndDateRefuse(t *testing.T) { // P4.1
	for _, c := range []struct{ y, m, d int }{
		{1900, 1, 1}, {1969, 12, 31}, {10000, 1, 1}, {0, 1, 1}, {-1970, 1, 1}, {70, 1, 1}, {math.MinInt, 1, 1}, {math.MaxInt, 1, 1},
		{2000, 0, 1}, {2000, 13, 1}, {2000, -1, 1}, {2000, math.MinInt, 1}, {2000, math.MaxInt, 1},
		{2000, 1, 0}, {2000, 1, 32}, {2000, 1, -1}, {2000, 1, math.MinInt}, {2000, 1, math.MaxInt}, {2000, 12, 32},
		{2001, 2, 29}, {2100, 2, 29}, {1970, 2, 29}, {2000, 2, 30}, {2000, 4, 31}, {2000, 6, 31}, {2000, 9, 31}, {2000, 11, 31},
	} {
		if got, err := httpdate.Day(c.y, c.m, c.d); got != 0 || err != api.ErrRange {
			t.Errorf("Day(%d, %d, %d) = %d, %v; want ErrRange", c.y, c.m, c.d, got, err)
		}
	}
	for _, day := range []int{-1, -2932896, 2932897, math.MinInt, math.MaxInt} {
		if y, m, d, err := httpdate.Date(day); y != 0 || m != 0 || d != 0 || err != api.ErrRange {
			t.Errorf("Date(%d) = %d, %d, %d, %v; want ErrRange", day, y, m, d, err)
		}
	}
}

func TestDayOfNearDates(t *testing.T) { // P4.1, P4.2
	for _, years := range [][2]int{{1967, 2009}, {2095, 2105}, {2395, 2405}, {9995, 10005}} {
		for y := years[0]; y <= years[1]; y++ {
			for m := -1; m <= 14; m++ {
				for d := -1; d <= 33; d++ {
					compareDay(t, y, m, d)
				}
			}
		}
	}
}

// next returns the date after y, m, d.
func next(y, m, d int) (int, int, int) {
	length := []int{31, 28, 31, 30, 31, 30, 31, 31, 30, 31, 30, 31}[m-1]
	if m == 2 && (y%4 == 0 && y%100 != 0 || y%400 == 0) {
		length++
	}
	switch {
	case d < length:
		return y, m, d + 1
	case m < 12:
		return y, m + 1, 1
	}
	return y + 1, 1, 1
}

func TestSuccessiveDates(t *testing.T) { // P4.1, P4.2
	y, m, d := 1970, 1, 1
	for day := range lastDay + 1 {
		if got, err := httpdate.Day(y, m, d); got != day || err != nil {
			t.Fatalf("Day(%d, %d, %d) = %d, %v; want %d", y, m, d, got, err, day)
		}
		if y2, m2, d2, err := httpdate.Date(day); y2 != y || m2 != m || d2 != d || err != nil {
			t.Fatalf("Date(%d) = %d, %d, %d, %v; want %d, %d, %d", day, y2, m2, d2, err, y, m, d)
		}
		if got := httpdate.Weekday(day); got != (day+4)%7 {
			t.Fatalf("Weekday(%d) = %d; want %d", day, got, (day+4)%7)
		}
		y, m, d = next(y, m, d)
	}
	if y != 10000 || m != 1 || d != 1 {
		t.Errorf("the calendar ends before %d-%d-%d", y, m, d)
	}
}

func TestSecondsOfAllYears(t *testing.T) { // P4.1, P4.2
	// The step is prime to the lengths of a day and of a week.
	for seconds := 0; seconds <= lastSeconds; seconds += 1000003 {
		compareFormat(t, seconds)
	}
	for y := 1970; y <= 9999; y++ {
		start, err := httpdate.Day(y, 1, 1)
		if err != nil {
			t.Fatal(err)
		}
		for seconds := start*daySeconds - 1; seconds <= start*daySeconds; seconds++ {
			compareFormat(t, seconds)
		}
	}
}

func TestSecondsOfADay(t *testing.T) { // P4.1, P4.2
	for _, day := range []int{0, 11016, lastDay} {
		for second := range daySeconds {
			compareFormat(t, day*daySeconds+second)
		}
	}
}

func TestWeekday(t *testing.T) { // P4.1, P4.2
	for day, want := range map[int]int{-7: 4, -5: 6, -4: 0, -3: 1, -1: 3, 0: 4, 1: 5, 2: 6, 3: 0, 4: 1, 7: 4, 9075: 0, 11017: 3, 2932896: 5, 2932897: 6} {
		if got := httpdate.Weekday(day); got != want {
			t.Errorf("Weekday(%d) = %d; want %d", day, got, want)
		}
	}
	for _, n := range edges {
		for k := range 30 {
			// Where the sum wraps around, it is a number near the other end of an int.
			compareWeekday(t, n+k)
			compareWeekday(t, n-k)
		}
	}
}

func TestFloor(t *testing.T) { // P4.1
	for ticks, want := range map[int]int{
		math.MinInt: 0, -1000: 0, -5: 0, -1: 0, 0: 0, 1: 0, 999: 0, 1000: 1, 1001: 1, 1999: 1, 2000: 2, 2999: 2,
		api.MaxTime - 777: 1099511626, api.MaxTime - 776: 1099511627, api.MaxTime: 1099511627, api.MaxTime + 224: 1099511627, math.MaxInt: 1099511627,
	} {
		if got := httpdate.Floor(ticks); got != want {
			t.Errorf("Floor(%d) = %d; want %d", ticks, got, want)
		}
	}
	for ticks := -3000; ticks < 10000; ticks++ {
		compareFloor(t, ticks)
		compareFloor(t, api.MaxTime+ticks-5000)
	}
}

// spoil returns s with some bytes changed, left out or put in.
func spoil(random *rand.Rand, s string) string {
	const others = "0123456789 :,+-SunMonGMTJaFeb\x00\xff"
	b := []byte(s)
	for range 1 + random.Intn(3) {
		at := random.Intn(len(b))
		c := others[random.Intn(len(others))]
		switch random.Intn(4) {
		case 0:
			b = append(b[:at], b[at+1:]...)
		case 1:
			b = append(b[:at], append([]byte{c}, b[at:]...)...)
		default:
			b[at] = c
		}
	}
	return string(b)
}

func TestRandom(t *testing.T) { // P4.1, P4.2
	random := rand.New(rand.NewSource(1))
	for range 50000 {
		compareNumber(t, int(random.Uint64()>>random.Intn(64)))
		compareDate(t, random.Intn(lastDay+1))
		compareDay(t, 1960+random.Intn(8100), random.Intn(14), random.Intn(33))
		seconds := random.Intn(lastSeconds + 1)
		compareFormat(t, seconds)
		text, err := httpdate.Format(seconds)
		if err != nil {
			t.Fatal(err)
		}
		compareParse(t, spoil(random, text))
	}
}

func FuzzDates(f *testing.F) { // P4.1, P4.2
	f.Add("Sun, 06 Nov 1994 08:49:37 GMT", 784111777, 2000, 2, 29)
	f.Add("Mon, 29 Feb 2100 24:60:60 GMT", -1, 1969, 13, 32)
	f.Fuzz(func(t *testing.T, text string, n, y, m, d int) {
		compareParse(t, text)
		compareNumber(t, n)
		compareDay(t, y, m, d)
	})
}
