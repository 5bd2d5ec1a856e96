package moments_test

import (
	"math"
	"testing"

	"bulla/moments"
)

// P6.1: years that are written out.
func TestLeapExamples(t *testing.T) {
	examples := map[int]bool{
		1970: false, 1971: false, 1972: true, 1999: false, 2000: true, 2001: false, 2004: true, 2024: true, 2026: false, 2100: false, 2200: false, 2300: false, 2400: true, 9996: true, 9999: false,
		0: true, 1: false, 4: true, 100: false, 200: false, 400: true, 1600: true, 1700: false, 1800: false, 1900: false, 1904: true, 10000: true, 10100: false, 1000000: true,
		-1: false, -4: true, -100: false, -200: false, -400: true, -401: false, -404: true, -500: false,
		math.MaxInt: false, math.MaxInt - 3: true, math.MaxInt - 7: false, math.MinInt: true, math.MinInt + 1: false, math.MinInt + 8: false,
	}
	for year, want := range examples {
		if got := moments.Leap(year); got != want {
			t.Errorf("%d: %v, wanted %v", year, got, want)
		}
	}
}

// years is many of them, one behind the other, and those about the ends.
func years() []int {
	var list []int
	for year := -5000; year <= 15000; year++ {
		list = append(list, year)
	}
	for i := range 1000 {
		list = append(list, math.MinInt+i, math.MaxInt-i, 1<<31-500+i, 1<<32-500+i, -1<<31-500+i, -1<<32-500+i)
	}
	return list
}

// P6.1: each year, also of those that have no moments.
func TestLeapOfYears(t *testing.T) {
	for _, year := range years() {
		if got, want := moments.Leap(year), wantLeap(year); got != want {
			t.Fatalf("%d: %v, wanted %v", year, got, want)
		}
	}
}

// P6.1: months that are written out.
func TestDaysExamples(t *testing.T) {
	examples := map[int][]int{
		1970: {0, 31, 28, 31, 30, 31, 30, 31, 31, 30, 31, 30, 31, 0},
		2000: {0, 31, 29, 31, 30, 31, 30, 31, 31, 30, 31, 30, 31, 0},
		2100: {0, 31, 28, 31, 30, 31, 30, 31, 31, 30, 31, 30, 31, 0},
		0:    {0, 31, 29, 31, 30, 31, 30, 31, 31, 30, 31, 30, 31, 0},
		-100: {0, 31, 28, 31, 30, 31, 30, 31, 31, 30, 31, 30, 31, 0},
		-4:   {0, 31, 29, 31, 30, 31, 30, 31, 31, 30, 31, 30, 31, 0},
	}
	for year, list := range examples {
		for month, want := range list {
			if got := moments.Days(year, month); got != want {
				t.Errorf("%d, %d: %d, wanted %d", year, month, got, want)
			}
		}
	}
}

// P6.1: all months of each year, and what is no month.
func TestDaysOfYears(t *testing.T) {
	wrong := []int{math.MinInt, math.MinInt + 2, -1 << 32, -12, -2, -1, 0, 13, 14, 24, 100, 256 + 1, 1<<32 + 1, 1<<32 + 2, 1<<62 + 2, math.MaxInt}
	for _, year := range years() {
		sum := 0
		for month := 1; month <= 12; month++ {
			got := moments.Days(year, month)
			if want := wantDays(year, month); got != want {
				t.Fatalf("%d, %d: %d, wanted %d", year, month, got, want)
			}
			sum += got
		}
		if is := sum == 366; is != moments.Leap(year) || !is && sum != 365 {
			t.Fatalf("%d has %d days, and is a leap year: %v", year, sum, moments.Leap(year))
		}
		for _, month := range wrong {
			if got := moments.Days(year, month); got != 0 {
				t.Fatalf("%d, %d: %d, wanted 0", year, month, got)
			}
		}
	}
}
