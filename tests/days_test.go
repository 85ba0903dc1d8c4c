package tests

import (
	"math"
	"testing"

	"loop.example/clockdaemon/impl"
)

// date is a date as the tests count it, without the program.
type date struct {
	year, month, day int
}

var monthLengths = [13]int{0, 31, 28, 31, 30, 31, 30, 31, 31, 30, 31, 30, 31}

// leapByHand decides by the cases of the document, one after the other.
func leapByHand(year int) bool {
	switch {
	case year < 1 || year > 4000:
		return false
	case year%400 == 0:
		return true
	case year%100 == 0:
		return false
	}
	return year%4 == 0
}

func monthByHand(year, month int) int {
	if month == 2 && leapByHand(year) {
		return 29
	}
	return monthLengths[month]
}

func (d date) next() date {
	d.day++
	if d.day > monthByHand(d.year, d.month) {
		d.day = 1
		d.month++
	}
	if d.month > 12 {
		d.month = 1
		d.year++
	}
	return d
}

func dateOf(n int) date {
	y, m, d := impl.DateOf(n)
	return date{y, m, d}
}

func dayOf(d date) int {
	return impl.DayOf(d.year, d.month, d.day)
}

// farNumbers are outside of every range of the chapter; some are valid when they are cut to 32, 16 or 8 bits.
var farNumbers = []int{
	math.MinInt, math.MinInt + 1, math.MinInt64 / 2, -1 << 32, -(1 << 32) + 1, math.MinInt32, -1 << 16,
	-1460970, -1460969, -4000, -400, -4, -1,
	1460970, 1 << 24, math.MaxInt32, 1<<32 + 1, 1<<32 + 2, 1<<32 + 4, 1<<32 + 2000, 1 << 40, math.MaxInt64 / 2, math.MaxInt - 1, math.MaxInt,
}

// badYears also has years whose multiples of 4, 100 and 400 would be leap years inside the range.
var badYears = append([]int{0, 4001, 4004, 4100, 4400, 8000, 10000}, farNumbers...)

var badMonths = append([]int{0, 13, 14, 24, 256 + 1}, farNumbers...)

// knownDays are days that were counted without the program.
var knownDays = []struct {
	date
	n, weekday int
}{
	{date{1, 1, 1}, 0, 0},
	{date{1, 1, 31}, 30, 2},
	{date{1, 2, 1}, 31, 3},
	{date{1, 2, 28}, 58, 2},
	{date{1, 3, 1}, 59, 3},
	{date{1, 12, 31}, 364, 0},
	{date{2, 1, 1}, 365, 1},
	{date{4, 2, 29}, 1154, 6},
	{date{4, 12, 31}, 1460, 4},
	{date{5, 1, 1}, 1461, 5},
	{date{100, 2, 28}, 36217, 6},
	{date{100, 3, 1}, 36218, 0},
	{date{101, 1, 1}, 36524, 5},
	{date{400, 2, 29}, 145790, 1},
	{date{400, 12, 31}, 146096, 6},
	{date{401, 1, 1}, 146097, 0},
	{date{1582, 10, 15}, 577735, 4},
	{date{1900, 2, 28}, 693653, 2},
	{date{1900, 3, 1}, 693654, 3},
	{date{1970, 1, 1}, 719162, 3},
	{date{2000, 1, 1}, 730119, 5},
	{date{2000, 2, 29}, 730178, 1},
	{date{2024, 2, 29}, 738944, 3},
	{date{2026, 11, 16}, 739935, 0},
	{date{2100, 2, 28}, 766702, 6},
	{date{2100, 3, 1}, 766703, 0},
	{date{4000, 2, 29}, 1460663, 1},
	{date{4000, 12, 31}, 1460969, 6},
}

func TestConstantsOfDays(t *testing.T) {
	if impl.MaxYear != 4000 || impl.MaxDay != 1460969 {
		t.Fatal(impl.MaxYear, impl.MaxDay)
	}
}

func TestKnownDays(t *testing.T) {
	for _, k := range knownDays {
		if got := dayOf(k.date); got != k.n {
			t.Errorf("DayOf(%v) = %d, want %d", k.date, got, k.n)
		}
		if got := dateOf(k.n); got != k.date {
			t.Errorf("DateOf(%d) = %v, want %v", k.n, got, k.date)
		}
		if got := impl.WeekdayOf(k.n); got != k.weekday {
			t.Errorf("WeekdayOf(%d) = %d, want %d", k.n, got, k.weekday)
		}
	}
}

// P1: DateOf the day is the date; the day before has the date before.
func TestP1DatesAreDays(t *testing.T) {
	var before date
	count := 0
	for d := (date{1, 1, 1}); d.year <= impl.MaxYear; d = d.next() {
		n := dayOf(d)
		if n != count {
			t.Fatalf("DayOf(%v) = %d, want %d", d, n, count)
		}
		if got := dateOf(n); got != d {
			t.Fatalf("DateOf(DayOf(%v)) = %v", d, got)
		}
		if got := dateOf(n - 1); got != before {
			t.Fatalf("DateOf(DayOf(%v)-1) = %v, want %v", d, got, before)
		}
		before = d
		count++
	}
	if count != impl.MaxDay+1 {
		t.Fatalf("%d days, want %d", count, impl.MaxDay+1)
	}
}

// P2: DayOf the date is the day; there is such a date.
func TestP2DaysAreDates(t *testing.T) {
	want := date{1, 1, 1}
	for n := 0; n <= impl.MaxDay; n++ {
		d := dateOf(n)
		if d != want {
			t.Fatalf("DateOf(%d) = %v, want %v", n, d, want)
		}
		if got := dayOf(d); got != n {
			t.Fatalf("DayOf(DateOf(%d)) = %d", n, got)
		}
		if d.day < 1 || d.day > impl.DaysIn(d.year, d.month) {
			t.Fatalf("DateOf(%d) = %v, no such date", n, d)
		}
		want = want.next()
	}
}

// P1 and P2 for numbers without a day: no date, and no weekday.
func TestNumbersWithoutDays(t *testing.T) {
	for _, n := range farNumbers {
		if got := dateOf(n); got != (date{}) {
			t.Errorf("DateOf(%d) = %v, want 0, 0 and 0", n, got)
		}
		if got := impl.WeekdayOf(n); got != -1 {
			t.Errorf("WeekdayOf(%d) = %d, want -1", n, got)
		}
	}
}

// P1 and P2 for dates that there are not: no day.
func TestDatesWithoutDays(t *testing.T) {
	refuse := func(year, month, day int) {
		t.Helper()
		if got := impl.DayOf(year, month, day); got != -1 {
			t.Errorf("DayOf(%d, %d, %d) = %d, want -1", year, month, day, got)
		}
	}
	for _, year := range badYears {
		refuse(year, 1, 1)
		refuse(year, 2, 29)
		refuse(year, 12, 31)
	}
	for _, month := range badMonths {
		refuse(1, month, 1)
		refuse(2026, month, 15)
		refuse(4000, month, 1)
	}
	for _, day := range append([]int{0, 32, 256 + 1}, farNumbers...) {
		refuse(1, 1, day)
		refuse(2024, 2, day)
		refuse(4000, 12, day)
	}
	for _, far := range []int{math.MinInt, math.MaxInt} {
		refuse(far, far, far)
	}
	refuse(0, 0, 0)
}

// P1 and P2 at the ends of all months: the last day is there, the day 0 and the one behind the last are not.
func TestEndsOfMonths(t *testing.T) {
	for year := 1; year <= impl.MaxYear; year++ {
		for month := 1; month <= 12; month++ {
			last := monthByHand(year, month)
			if impl.DayOf(year, month, 1) < 0 || impl.DayOf(year, month, last) != impl.DayOf(year, month, 1)+last-1 {
				t.Fatalf("%d-%d does not end on %d", year, month, last)
			}
			if impl.DayOf(year, month, 0) != -1 || impl.DayOf(year, month, last+1) != -1 {
				t.Fatalf("%d-%d has a day 0 or %d", year, month, last+1)
			}
		}
	}
}

// P25: a year has 366 days exactly if it is a leap year.
func TestP25LeapYearsHaveADayMore(t *testing.T) {
	for year := 1; year <= impl.MaxYear; year++ {
		leap := impl.LeapYear(year)
		if leap != leapByHand(year) {
			t.Fatalf("LeapYear(%d) = %v", year, leap)
		}
		want := 365
		if leap {
			want = 366
		}
		if got := impl.DayOf(year, 12, 31) - impl.DayOf(year, 1, 1) + 1; got != want {
			t.Fatalf("%d has %d days, want %d", year, got, want)
		}
		sum := 0
		for month := 1; month <= 12; month++ {
			sum += impl.DaysIn(year, month)
		}
		if sum != want {
			t.Fatalf("the months of %d have %d days, want %d", year, sum, want)
		}
	}
}

func TestP25KnownLeapYears(t *testing.T) {
	for _, year := range []int{4, 8, 96, 104, 400, 800, 1600, 1904, 1996, 2000, 2004, 2024, 2400, 3996, 4000} {
		if !impl.LeapYear(year) {
			t.Errorf("LeapYear(%d) = false", year)
		}
	}
	for _, year := range []int{1, 2, 3, 5, 100, 200, 300, 500, 1582, 1700, 1800, 1900, 2001, 2026, 2100, 2200, 2300, 3900, 3999} {
		if impl.LeapYear(year) {
			t.Errorf("LeapYear(%d) = true", year)
		}
	}
	for _, year := range badYears {
		if impl.LeapYear(year) {
			t.Errorf("LeapYear(%d) = true", year)
		}
	}
}

// P26: months have 28 to 31 days, and only February depends on the year.
func TestP26MonthsHave28To31Days(t *testing.T) {
	for year := 1; year <= impl.MaxYear; year++ {
		for month := 1; month <= 12; month++ {
			got := impl.DaysIn(year, month)
			if got < 28 || got > 31 {
				t.Fatalf("DaysIn(%d, %d) = %d", year, month, got)
			}
			if month != 2 && got != impl.DaysIn(1, month) {
				t.Fatalf("DaysIn(%d, %d) = %d depends on the year", year, month, got)
			}
			if want := monthByHand(year, month); got != want {
				t.Fatalf("DaysIn(%d, %d) = %d, want %d", year, month, got, want)
			}
		}
	}
}

func TestP26KnownFebruaries(t *testing.T) {
	for year, want := range map[int]int{1: 28, 4: 29, 100: 28, 400: 29, 1900: 28, 2000: 29, 2023: 28, 2024: 29, 2100: 28, 3999: 28, 4000: 29} {
		if got := impl.DaysIn(year, 2); got != want {
			t.Errorf("DaysIn(%d, 2) = %d, want %d", year, got, want)
		}
	}
}

func TestP26NoSuchMonths(t *testing.T) {
	for _, year := range badYears {
		for month := 1; month <= 12; month++ {
			if got := impl.DaysIn(year, month); got != 0 {
				t.Errorf("DaysIn(%d, %d) = %d, want 0", year, month, got)
			}
		}
	}
	for _, month := range badMonths {
		for _, year := range append([]int{1, 4, 100, 400, 2026, 4000}, badYears...) {
			if got := impl.DaysIn(year, month); got != 0 {
				t.Errorf("DaysIn(%d, %d) = %d, want 0", year, month, got)
			}
		}
	}
}

// P97: the first day of a year is one weekday later than that of the year before, or two after a leap year.
func TestP97WeeksGoOnOverYears(t *testing.T) {
	for year := 2; year <= impl.MaxYear; year++ {
		later := 1
		if impl.LeapYear(year - 1) {
			later = 2
		}
		before := impl.WeekdayOf(impl.DayOf(year-1, 1, 1))
		first := impl.WeekdayOf(impl.DayOf(year, 1, 1))
		if before < 0 || before > 6 || first != (before+later)%7 {
			t.Fatalf("%d begins on weekday %d, and %d on %d", year-1, before, year, first)
		}
		if last := impl.WeekdayOf(impl.DayOf(year, 1, 1) - 1); last != (first+6)%7 {
			t.Fatalf("%d ends on weekday %d, and %d begins on %d", year-1, last, year, first)
		}
	}
}

func TestP97EveryDayHasTheNextWeekday(t *testing.T) {
	for n := 0; n <= impl.MaxDay; n++ {
		if got := impl.WeekdayOf(n); got != n%7 {
			t.Fatalf("WeekdayOf(%d) = %d, want %d", n, got, n%7)
		}
	}
}

// P98: 400 years later a date has the same weekday.
func TestP98CalendarsRepeat(t *testing.T) {
	for d := (date{1, 1, 1}); d.year <= impl.MaxYear-400; d = d.next() {
		n, later := dayOf(d), impl.DayOf(d.year+400, d.month, d.day)
		if later != n+146097 {
			t.Fatalf("400 years behind %v is day %d, and it is day %d", d, later, n)
		}
		if a, b := impl.WeekdayOf(n), impl.WeekdayOf(later); a < 0 || a != b {
			t.Fatalf("%v has weekday %d, and 400 years later %d", d, a, b)
		}
	}
}

func TestP98NothingBehindTheLastYear(t *testing.T) {
	for _, d := range []date{{3601, 1, 1}, {3604, 2, 29}, {4000, 12, 31}} {
		if got := impl.DayOf(d.year+400, d.month, d.day); got != -1 || impl.WeekdayOf(got) != -1 {
			t.Errorf("400 years behind %v is day %d, want -1", d, got)
		}
	}
}
