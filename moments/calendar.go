package moments

const (
	firstYear  = 1970
	lastYear   = 9999
	commonYear = 365 // days
	leapYear   = 366
	february   = 2
	leapMonth  = 29 // days of February, in a leap year
)

// lengths is the days of each month, in a year of 365 days.
var lengths = [12]int{31, 28, 31, 30, 31, 30, 31, 31, 30, 31, 30, 31}

// Leap tells whether a year has 366 days.
func Leap(year int) bool {
	return year%4 == 0 && year%100 != 0 || year%400 == 0
}

// Days is how many days a month has.
func Days(year, month int) int {
	if !within(1, len(lengths), month) {
		return 0
	}
	if month == february && Leap(year) {
		return leapMonth
	}
	return lengths[month-1]
}

// dateOfDay is the date at which a day begins; days are counted from the first one of 1970, which is 0.
func dateOfDay(day int) Date {
	year := firstYear + day/leapYear // not too late, as no year has more days
	for daysAhead(year+1) <= day {
		year++
	}
	month, left := 1, day-daysAhead(year)
	for left >= Days(year, month) {
		left -= Days(year, month)
		month++
	}
	return Date{Year: year, Month: month, Day: left + 1}
}

// dayOfDate is the day of a date.
func dayOfDate(d Date) int {
	day := daysAhead(d.Year) + d.Day - 1
	for month := 1; month < d.Month; month++ {
		day += Days(d.Year, month)
	}
	return day
}

// daysAhead is how many days lie between the beginnings of 1970 and of a later year.
func daysAhead(year int) int {
	return (year-firstYear)*commonYear + leapsAhead(year) - leapsAhead(firstYear)
}

// leapsAhead is how many leap years lie ahead of a year, from the year 1 on.
func leapsAhead(year int) int {
	last := year - 1
	return last/4 - last/100 + last/400
}
