package moments_test

import (
	"errors"
	"math"
	"testing"

	"bulla/api"
	"bulla/moments"
)

// P6.1: moments whose dates and days of the week are written out.
func TestOfExamples(t *testing.T) {
	examples := []struct {
		t       int
		d       moments.Date
		weekday int
	}{
		{0, moments.Date{Year: 1970, Month: 1, Day: 1}, 4},
		{1, moments.Date{Year: 1970, Month: 1, Day: 1, Second: 1}, 4},
		{59, moments.Date{Year: 1970, Month: 1, Day: 1, Second: 59}, 4},
		{60, moments.Date{Year: 1970, Month: 1, Day: 1, Minute: 1}, 4},
		{3599, moments.Date{Year: 1970, Month: 1, Day: 1, Minute: 59, Second: 59}, 4},
		{3600, moments.Date{Year: 1970, Month: 1, Day: 1, Hour: 1}, 4},
		{86399, moments.Date{Year: 1970, Month: 1, Day: 1, Hour: 23, Minute: 59, Second: 59}, 4},
		{86400, moments.Date{Year: 1970, Month: 1, Day: 2}, 5},
		{172800, moments.Date{Year: 1970, Month: 1, Day: 3}, 6},
		{259200, moments.Date{Year: 1970, Month: 1, Day: 4}, 0},
		{5097599, moments.Date{Year: 1970, Month: 2, Day: 28, Hour: 23, Minute: 59, Second: 59}, 6},
		{5097600, moments.Date{Year: 1970, Month: 3, Day: 1}, 0},
		{31535999, moments.Date{Year: 1970, Month: 12, Day: 31, Hour: 23, Minute: 59, Second: 59}, 4},
		{31536000, moments.Date{Year: 1971, Month: 1, Day: 1}, 5},
		{68169600, moments.Date{Year: 1972, Month: 2, Day: 29}, 2},
		{94694399, moments.Date{Year: 1972, Month: 12, Day: 31, Hour: 23, Minute: 59, Second: 59}, 0},
		{94694400, moments.Date{Year: 1973, Month: 1, Day: 1}, 1},
		{951782400, moments.Date{Year: 2000, Month: 2, Day: 29}, 2},
		{951868800, moments.Date{Year: 2000, Month: 3, Day: 1}, 3},
		{1000000000, moments.Date{Year: 2001, Month: 9, Day: 9, Hour: 1, Minute: 46, Second: 40}, 0},
		{1234567890, moments.Date{Year: 2009, Month: 2, Day: 13, Hour: 23, Minute: 31, Second: 30}, 5},
		{2147483647, moments.Date{Year: 2038, Month: 1, Day: 19, Hour: 3, Minute: 14, Second: 7}, 2},
		{2147483648, moments.Date{Year: 2038, Month: 1, Day: 19, Hour: 3, Minute: 14, Second: 8}, 2},
		{4107542399, moments.Date{Year: 2100, Month: 2, Day: 28, Hour: 23, Minute: 59, Second: 59}, 0},
		{4107542400, moments.Date{Year: 2100, Month: 3, Day: 1}, 1},
		{4294967296, moments.Date{Year: 2106, Month: 2, Day: 7, Hour: 6, Minute: 28, Second: 16}, 0},
		{253402300799, moments.Date{Year: 9999, Month: 12, Day: 31, Hour: 23, Minute: 59, Second: 59}, 5},
	}
	for _, e := range examples {
		if got, err := moments.Of(e.t); err != nil || got != e.d {
			t.Errorf("%d: %v, %v, wanted %v", e.t, got, err, e.d)
		}
		if got, err := moments.Seconds(e.d); err != nil || got != e.t {
			t.Errorf("%v: %d, %v, wanted %d", e.d, got, err, e.t)
		}
		if got := moments.Weekday(e.t); got != e.weekday {
			t.Errorf("%d: the weekday %d, wanted %d", e.t, got, e.weekday)
		}
	}
}

// P6.1: what is no moment has no date, no body and no day of the week.
func TestNoMoments(t *testing.T) {
	for _, n := range []int{-1, -2, -60, -86400, -1 << 31, -1 << 40, math.MinInt, math.MinInt + 1, 253402300800, 253402300801, 253402387200, 1 << 40, 1 << 62, math.MaxInt - 1, math.MaxInt} {
		if got, err := moments.Of(n); !errors.Is(err, api.ErrRange) || got != (moments.Date{}) {
			t.Errorf("%d: the date %v, %v", n, got, err)
		}
		if got, err := moments.Put(n); !errors.Is(err, api.ErrRange) || got != nil {
			t.Errorf("%d: the body %q, %v", n, got, err)
		}
		if got := moments.Weekday(n); got != -1 {
			t.Errorf("%d: the weekday %d", n, got)
		}
	}
}

// P6.1: the edges and others, against the library's calendar.
func TestMomentsAreTheLibrarys(t *testing.T) {
	for _, n := range edges() {
		holdMoment(t, n)
	}
	for _, n := range someMoments() {
		holdMoment(t, n)
	}
}

// P6.1: all days up to the last one, gone through by a calendar that only counts on.
func TestEachDay(t *testing.T) {
	d := moments.Date{Year: 1970, Month: 1, Day: 1}
	weekday := 4
	n := 0
	for ; d.Year <= 9999; n += perDay {
		end := d
		end.Hour, end.Minute, end.Second = 23, 59, 59
		for at, want := range map[int]moments.Date{n: d, n + perDay - 1: end} {
			if got, err := moments.Of(at); err != nil || got != want {
				t.Fatalf("%d: %v, %v, wanted %v", at, got, err, want)
			}
			if got, err := moments.Seconds(want); err != nil || got != at {
				t.Fatalf("%v: %d, %v, wanted %d", want, got, err, at)
			}
			if got := moments.Weekday(at); got != weekday {
				t.Fatalf("%d: the weekday %d, wanted %d", at, got, weekday)
			}
		}
		weekday = (weekday + 1) % 7
		d.Day++
		if d.Day > wantDays(d.Year, d.Month) {
			d.Day = 1
			d.Month++
		}
		if d.Month > 12 {
			d.Month = 1
			d.Year++
		}
	}
	if n != last+1 {
		t.Errorf("%d seconds, wanted %d", n, last+1)
	}
}

// P6.1: all seconds of some days.
func TestEachSecond(t *testing.T) {
	for _, begin := range []int{0, 951782400, last + 1 - perDay} {
		for second := range perDay {
			holdMoment(t, begin+second)
		}
	}
}

// P6.1: what is no date, and 0 beside the error.
func TestSecondsErrors(t *testing.T) {
	wrong := map[string]moments.Date{
		"nothing":                        {},
		"the year 1969":                  {Year: 1969, Month: 12, Day: 31, Hour: 23, Minute: 59, Second: 59},
		"the year 1600":                  {Year: 1600, Month: 2, Day: 29},
		"the year 0":                     {Year: 0, Month: 1, Day: 1},
		"a year below 0":                 {Year: -2000, Month: 1, Day: 1},
		"the year 10000":                 {Year: 10000, Month: 1, Day: 1},
		"the month 0":                    {Year: 2000, Month: 0, Day: 1},
		"the month 13":                   {Year: 2000, Month: 13, Day: 1},
		"a month below 0":                {Year: 2000, Month: -1, Day: 1},
		"a month of no days, and day 0":  {Year: 2000, Month: 0, Day: 0},
		"the month 13, and day 0":        {Year: 2000, Month: 13, Day: 0},
		"the day 0":                      {Year: 2000, Month: 1, Day: 0},
		"a day below 0":                  {Year: 2000, Month: 1, Day: -1},
		"the 32nd of January":            {Year: 2000, Month: 1, Day: 32},
		"the 30th of February":           {Year: 2000, Month: 2, Day: 30},
		"the 29th of February 1999":      {Year: 1999, Month: 2, Day: 29},
		"the 29th of February 2100":      {Year: 2100, Month: 2, Day: 29},
		"the 31st of April":              {Year: 2000, Month: 4, Day: 31},
		"the 31st of November":           {Year: 2000, Month: 11, Day: 31},
		"the 32nd of December":           {Year: 2000, Month: 12, Day: 32},
		"the hour 24":                    {Year: 2000, Month: 1, Day: 1, Hour: 24},
		"an hour below 0":                {Year: 2000, Month: 1, Day: 1, Hour: -1},
		"the minute 60":                  {Year: 2000, Month: 1, Day: 1, Minute: 60},
		"a minute below 0":               {Year: 2000, Month: 1, Day: 1, Minute: -1},
		"the second 60":                  {Year: 2000, Month: 1, Day: 1, Second: 60},
		"a second below 0":               {Year: 2000, Month: 1, Day: 1, Second: -1},
		"a leap second":                  {Year: 2016, Month: 12, Day: 31, Hour: 23, Minute: 59, Second: 60},
		"the greatest numbers":           {Year: math.MaxInt, Month: math.MaxInt, Day: math.MaxInt, Hour: math.MaxInt, Minute: math.MaxInt, Second: math.MaxInt},
		"the least numbers":              {Year: math.MinInt, Month: math.MinInt, Day: math.MinInt, Hour: math.MinInt, Minute: math.MinInt, Second: math.MinInt},
		"a second that makes up for 24h": {Year: 2000, Month: 1, Day: 1, Hour: 24, Second: -1},
	}
	for what, d := range wrong {
		if got, err := moments.Seconds(d); !errors.Is(err, api.ErrRange) || got != 0 {
			t.Errorf("%s: %d, %v", what, got, err)
		}
	}
}

// P6.1: each field of dates changed to numbers at which something changes, alone and with another one.
func TestSecondsByFields(t *testing.T) {
	numbers := []int{
		math.MinInt, -1 << 32, -400, -1, 0, 1, 2, 4, 11, 12, 13, 22, 23, 24, 25, 27, 28, 29, 30, 31, 32, 58, 59, 60, 61, 100, 365, 366, 400, 1600, 1900, 1968, 1969, 1970, 1971, 1972,
		1999, 2000, 2100, 2400, 9998, 9999, 10000, 10004, 12000, 1 << 31, 1<<32 + 1, 1<<32 + 2000, 1 << 62, math.MaxInt,
	}
	dates := []moments.Date{
		{Year: 1970, Month: 1, Day: 1}, {Year: 2000, Month: 2, Day: 29, Hour: 12, Minute: 30, Second: 30}, {Year: 2001, Month: 2, Day: 28}, {Year: 2100, Month: 2, Day: 28, Hour: 5},
		{Year: 2024, Month: 4, Day: 30, Minute: 59}, {Year: 2023, Month: 7, Day: 31, Second: 59}, {Year: 9999, Month: 12, Day: 31, Hour: 23, Minute: 59, Second: 59},
	}
	for _, d := range dates {
		fields := []*int{&d.Year, &d.Month, &d.Day, &d.Hour, &d.Minute, &d.Second}
		holdDate(t, d)
		for i, one := range fields {
			for _, other := range fields[i:] {
				was, wasOther := *one, *other
				for _, n := range numbers {
					for _, m := range numbers {
						*one, *other = n, m
						holdDate(t, d)
					}
				}
				*one, *other = was, wasOther
			}
		}
	}
}

// P6.1: all months, and the days about their ends, of years that differ in what the calendar asks.
func TestDaysOfMonths(t *testing.T) {
	for _, year := range []int{1969, 1970, 1971, 1972, 1996, 1999, 2000, 2001, 2004, 2099, 2100, 2104, 2200, 2300, 2400, 2800, 9600, 9900, 9996, 9999, 10000} {
		for month := -1; month <= 14; month++ {
			for day := -1; day <= 33; day++ {
				holdDate(t, moments.Date{Year: year, Month: month, Day: day, Hour: 23, Minute: 1, Second: 59})
			}
		}
	}
}

// P6.1: sums that are written out.
func TestAddExamples(t *testing.T) {
	examples := []struct{ t, seconds, want int }{
		{0, 0, 0}, {0, 1, 1}, {1, -1, 0}, {5, -2, 3}, {1000, 864000, 865000}, {951782400, 86400, 951868800}, {951868800, -86400, 951782400},
		{0, last, last}, {last, 0, last}, {last, -last, 0}, {last - 1, 1, last}, {1, last - 1, last}, {last, -1, last - 1},
	}
	for _, e := range examples {
		if got, err := moments.Add(e.t, e.seconds); err != nil || got != e.want {
			t.Errorf("%d and %d: %d, %v, wanted %d", e.t, e.seconds, got, err, e.want)
		}
	}
	wrong := []struct{ t, seconds int }{
		{0, -1}, {5, -6}, {last, 1}, {last, -last - 1}, {0, last + 1}, {1, last}, {-1, 0}, {-1, 1}, {-1, 2}, {-5, 10}, {last + 1, 0}, {last + 1, -1}, {last + 1, -last},
		{0, math.MaxInt}, {1, math.MaxInt}, {last, math.MaxInt}, {0, math.MinInt}, {1, math.MinInt}, {last, math.MinInt}, {math.MaxInt, math.MinInt}, {math.MinInt, math.MaxInt},
		{math.MaxInt, -math.MaxInt}, {math.MinInt, math.MinInt}, {math.MinInt + 1, math.MaxInt}, {math.MaxInt, math.MaxInt}, {math.MaxInt, 1}, {math.MinInt, -1},
	}
	for _, w := range wrong {
		if got, err := moments.Add(w.t, w.seconds); !errors.Is(err, api.ErrRange) || got != 0 {
			t.Errorf("%d and %d: %d, %v", w.t, w.seconds, got, err)
		}
	}
}

// P6.1: sums of the edges, and of those that come to an edge.
func TestAddEdges(t *testing.T) {
	for _, n := range edges() {
		for _, seconds := range edges() {
			holdAdd(t, n, seconds)
			holdAdd(t, n, seconds-n)
		}
	}
}

// FuzzMoment holds whatever numbers against what the chapter tells.
func FuzzMoment(f *testing.F) {
	for _, n := range []int{0, 951782400, last, last + 1, -1, math.MaxInt, math.MinInt} {
		f.Add(n, 1)
		f.Add(n, -n)
	}
	f.Fuzz(func(t *testing.T, n, seconds int) {
		for _, near := range []int{n, n % (last + 1)} { // the second one is a moment more often
			holdMoment(t, near)
			holdAdd(t, near, seconds)
			holdAdd(t, near, seconds%(last+1))
		}
	})
}

// FuzzSeconds holds whatever date against what the chapter tells.
func FuzzSeconds(f *testing.F) {
	f.Add(2000, 2, 29, 23, 59, 59)
	f.Add(1969, 13, 0, 24, 60, 60)
	f.Fuzz(func(t *testing.T, year, month, day, hour, minute, second int) {
		holdDate(t, moments.Date{Year: year, Month: month, Day: day, Hour: hour, Minute: minute, Second: second})
		holdDate(t, moments.Date{Year: 1960 + year%8100, Month: month % 14, Day: day % 33, Hour: hour % 25, Minute: minute % 61, Second: second % 61})
	})
}
