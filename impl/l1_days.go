package impl

// MaxYear is the last year, and MaxDay the number of its last day; day 0 is January 1 of the year 1, a Monday.
const (
	MaxYear = 4000
	MaxDay  = 1460969
)

// Dates are computed in years that begin with March: a leap day then ends its
// year, so that no month starts later because of it.
const (
	cycleYears = 400
	cycleDays  = 146097
	// marchDays is the number of days from March 1 of the year 0 up to day 0.
	marchDays = 306
)

// LeapYear reports whether a year in 1..MaxYear has 366 days: it is a multiple of 4, but none of 100, or one of 400; false for other years.
func LeapYear(year int) bool {
	if year < 1 || year > MaxYear {
		return false
	}
	return year%4 == 0 && (year%100 != 0 || year%400 == 0)
}

// DaysIn returns how many days a month in 1..12 of a year in 1..MaxYear has; 0 for other arguments.
func DaysIn(year int, month int) int {
	if year < 1 || year > MaxYear || month < 1 || month > 12 {
		return 0
	}
	if month == 2 {
		if LeapYear(year) {
			return 29
		}
		return 28
	}
	_, place := marchMonth(year, month)
	return daysBeforeMonth(place+1) - daysBeforeMonth(place)
}

// DayOf returns the number of the day of a date, day by day from 0 for January 1 of the year 1; -1 if there is no such date.
func DayOf(year int, month int, day int) int {
	if day < 1 || day > DaysIn(year, month) {
		return -1
	}
	marchYear, place := marchMonth(year, month)
	return daysBeforeYear(marchYear) + daysBeforeMonth(place) + day - 1 - marchDays
}

// DateOf returns the year, the month and the day of the month of a day in 0..MaxDay; 0, 0 and 0 for other numbers.
func DateOf(n int) (int, int, int) {
	if n < 0 || n > MaxDay {
		return 0, 0, 0
	}
	n += marchDays
	marchYear := marchYearOf(n)
	n -= daysBeforeYear(marchYear)
	place := (5*n + 2) / 153
	day := n - daysBeforeMonth(place) + 1
	if place < 10 {
		return marchYear, place + 3, day
	}
	return marchYear + 1, place - 9, day
}

// WeekdayOf returns the weekday of a day in 0..MaxDay: 0 for Monday to 6 for Sunday; -1 for other numbers.
func WeekdayOf(n int) int {
	if n < 0 || n > MaxDay {
		return -1
	}
	return n % 7
}

// marchMonth returns the year from March on that a month belongs to, and its place there, 0 for March.
func marchMonth(year int, month int) (int, int) {
	if month < 3 {
		return year - 1, month + 9
	}
	return year, month - 3
}

// marchYearOf returns the year from March on of a day that is counted from March 1 of the year 0.
func marchYearOf(n int) int {
	year := n * cycleYears / cycleDays
	// A year may begin up to two days earlier than years of average length would.
	if daysBeforeYear(year+1) <= n {
		year++
	}
	return year
}

// daysBeforeYear returns how many days the years from March on before a year have, from the year 0 on.
func daysBeforeYear(marchYear int) int {
	return 365*marchYear + marchYear/4 - marchYear/100 + marchYear/400
}

// daysBeforeMonth returns how many days of a year from March on come before the month at a place.
func daysBeforeMonth(place int) int {
	// From March on the lengths 31, 30, 31, 30 and 31 come again and again: 153 days in 5 months.
	return (153*place + 2) / 5
}
