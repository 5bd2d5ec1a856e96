package moments_test

import (
	"bytes"
	"cmp"
	"errors"
	"math"
	"math/big"
	"math/rand"
	"regexp"
	"slices"
	"strconv"
	"testing"
	"time"

	"bulla/api"
	"bulla/moments"
)

const (
	perDay = 86400
	last   = 253402300799 // moment
)

// isMoment tells whether it is one, as the chapter's words do.
func isMoment(t int) bool { return t >= 0 && t <= last }

// dateOf is what the library's calendar tells of a moment.
func dateOf(t int) moments.Date {
	u := time.Unix(int64(t), 0).UTC()
	return moments.Date{Year: u.Year(), Month: int(u.Month()), Day: u.Day(), Hour: u.Hour(), Minute: u.Minute(), Second: u.Second()}
}

// bodyByHand is a date's body.
func bodyByHand(d moments.Date) []byte {
	places := func(n, size int) string {
		text := strconv.Itoa(n)
		for len(text) < size {
			text = "0" + text
		}
		return text
	}
	return []byte(places(d.Year, 4) + places(d.Month, 2) + places(d.Day, 2) + places(d.Hour, 2) + places(d.Minute, 2) + places(d.Second, 2) + "Z")
}

// wantLeap is Leap as the calendar of Gregory tells it, of years of any size.
func wantLeap(year int) bool {
	left := func(by int64) int64 { // from 0 on, of years below 0, too
		return new(big.Int).Mod(big.NewInt(int64(year)), big.NewInt(by)).Int64()
	}
	switch {
	case left(400) == 0:
		return true
	case left(100) == 0:
		return false
	}
	return left(4) == 0
}

// wantDays is Days as the chapter tells it.
func wantDays(year, month int) int {
	switch month {
	case 1, 3, 5, 7, 8, 10, 12:
		return 31
	case 4, 6, 9, 11:
		return 30
	case 2:
		if wantLeap(year) {
			return 29
		}
		return 28
	}
	return 0
}

// isDate tells whether it is one, as the chapter's words do.
func isDate(d moments.Date) bool {
	if d.Year < 1970 || d.Year > 9999 || d.Month < 1 || d.Month > 12 || d.Day < 1 || d.Day > wantDays(d.Year, d.Month) {
		return false
	}
	return d.Hour >= 0 && d.Hour <= 23 && d.Minute >= 0 && d.Minute <= 59 && d.Second >= 0 && d.Second <= 59
}

// wantSeconds is Seconds as the chapter tells it.
func wantSeconds(d moments.Date) (int, error) {
	if !isDate(d) {
		return 0, api.ErrRange
	}
	return int(time.Date(d.Year, time.Month(d.Month), d.Day, d.Hour, d.Minute, d.Second, 0, time.UTC).Unix()), nil
}

// right is 14 figures and a Z.
var right = regexp.MustCompile(`\A([0-9]{4})([0-9]{2})([0-9]{2})([0-9]{2})([0-9]{2})([0-9]{2})Z\z`)

// wantGet is Get as the chapter tells it.
func wantGet(b []byte) (int, error) {
	parts := right.FindStringSubmatch(string(b))
	if parts == nil {
		return 0, api.ErrForm
	}
	var n [6]int
	for i := range n {
		var err error
		if n[i], err = strconv.Atoi(parts[1+i]); err != nil {
			panic(err)
		}
	}
	return wantSeconds(moments.Date{Year: n[0], Month: n[1], Day: n[2], Hour: n[3], Minute: n[4], Second: n[5]})
}

// wantAdd is Add as the chapter tells it, by sums of any size.
func wantAdd(t, seconds int) (int, error) {
	sum := new(big.Int).Add(big.NewInt(int64(t)), big.NewInt(int64(seconds)))
	if !isMoment(t) || sum.Sign() < 0 || sum.Cmp(big.NewInt(last)) > 0 {
		return 0, api.ErrRange
	}
	return int(sum.Int64()), nil
}

// holdMoment holds all calls of a number against what the chapter tells.
func holdMoment(t *testing.T, n int) {
	t.Helper()
	var wantDate moments.Date
	var wantBody []byte
	var wantErr error = api.ErrRange
	wantWeekday := -1
	if isMoment(n) {
		wantDate, wantErr = dateOf(n), nil
		wantBody = bodyByHand(wantDate)
		wantWeekday = int(time.Unix(int64(n), 0).UTC().Weekday())
	}
	if got, err := moments.Of(n); !errors.Is(err, wantErr) || got != wantDate {
		t.Fatalf("%d: %v, %v, wanted %v, %v", n, got, err, wantDate, wantErr)
	}
	if got, err := moments.Put(n); !errors.Is(err, wantErr) || !bytes.Equal(got, wantBody) || (got == nil) != (wantBody == nil) {
		t.Fatalf("%d: the body %q, %v, wanted %q, %v", n, got, err, wantBody, wantErr)
	}
	if got := moments.Weekday(n); got != wantWeekday {
		t.Fatalf("%d: the weekday %d, wanted %d", n, got, wantWeekday)
	}
	if wantErr != nil {
		return
	}
	if got, err := moments.Seconds(wantDate); err != nil || got != n {
		t.Fatalf("%d: %v, which is %d, %v", n, wantDate, got, err)
	}
	if got, err := moments.Get(wantBody); err != nil || got != n {
		t.Fatalf("%d: %q, read as %d, %v", n, wantBody, got, err)
	}
}

// holdDate holds Seconds against what the chapter tells; what has a moment is that moment's date.
func holdDate(t *testing.T, d moments.Date) {
	t.Helper()
	got, err := moments.Seconds(d)
	want, wantErr := wantSeconds(d)
	if !errors.Is(err, wantErr) || got != want {
		t.Fatalf("%v: %d, %v, wanted %d, %v", d, got, err, want, wantErr)
	}
	if err != nil {
		return
	}
	if again, err := moments.Of(got); err != nil || again != d {
		t.Fatalf("%v is %d, whose date is %v, %v", d, got, again, err)
	}
}

// holdBody holds Get against what the chapter tells; what has a moment is that moment's body.
func holdBody(t *testing.T, body []byte) {
	t.Helper()
	got, err := moments.Get(body)
	want, wantErr := wantGet(body)
	if !errors.Is(err, wantErr) || got != want {
		t.Fatalf("%.40q: %d, %v, wanted %d, %v", body, got, err, want, wantErr)
	}
	if err != nil {
		return
	}
	if again, err := moments.Put(got); err != nil || !bytes.Equal(again, body) {
		t.Fatalf("%q is %d, whose body is %q, %v", body, got, again, err)
	}
}

// holdAdd holds Add against what the chapter tells.
func holdAdd(t *testing.T, n, seconds int) {
	t.Helper()
	got, err := moments.Add(n, seconds)
	if want, wantErr := wantAdd(n, seconds); !errors.Is(err, wantErr) || got != want {
		t.Fatalf("%d and %d: %d, %v, wanted %d, %v", n, seconds, got, err, want, wantErr)
	}
}

// holdOrder holds the bodies of two moments against each other.
func holdOrder(t *testing.T, one, other int) {
	t.Helper()
	a, err := moments.Put(one)
	if err != nil {
		t.Fatal(err)
	}
	b, err := moments.Put(other)
	if err != nil {
		t.Fatal(err)
	}
	if got, want := bytes.Compare(a, b), cmp.Compare(one, other); got != want {
		t.Fatalf("%d and %d: %q and %q, whose order is %d, wanted %d", one, other, a, b, got, want)
	}
}

// edges is the numbers at which something changes, and those beside them, moments and others.
func edges() []int {
	list := []int{math.MinInt, math.MinInt + 1, math.MaxInt - 1, math.MaxInt, math.MaxInt - last, math.MinInt + last, last - perDay, -last}
	for _, about := range []int{0, last, last + 1, 59, 60, 3600, perDay, 951782400, 4107542400} {
		list = append(list, about-1, about, about+1)
	}
	for power := range 63 {
		list = append(list, 1<<power-1, 1<<power, 1<<power+1, -1<<power-1, -1<<power, 1-1<<power)
	}
	for _, year := range []int{1971, 1972, 1973, 1999, 2000, 2001, 2038, 2099, 2100, 2101, 2399, 2400, 2401, 4000, 9998, 9999} {
		for month := range 12 {
			begin := int(time.Date(year, time.Month(1+month), 1, 0, 0, 0, 0, time.UTC).Unix())
			list = append(list, begin-1, begin, begin+1)
		}
	}
	slices.Sort(list)
	return slices.Compact(list)
}

// someMoments is the edges that are moments, and others.
func someMoments() []int {
	list := slices.DeleteFunc(edges(), func(n int) bool { return !isMoment(n) })
	r := rand.New(rand.NewSource(6))
	for range 3000 {
		list = append(list, r.Intn(last+1), r.Intn(last+1)>>r.Intn(38), r.Intn(last/perDay)*perDay)
	}
	return list
}
