package tests

import (
	"testing"

	"loop.example/clockdaemon/impl"
)

// weekdayDays are the days of a month by their weekdays, in ascending order.
type weekdayDays [7][]int

// monthsWithDays counts through a year day by day, from its first day n on, without the program.
func monthsWithDays(year, n int) [13]weekdayDays {
	var months [13]weekdayDays
	for d := (date{year, 1, 1}); d.year == year; d = d.next() {
		months[d.month][n%7] = append(months[d.month][n%7], n)
		n++
	}
	return months
}

func dayByHand(days []int, week int) int {
	if week == 5 {
		return days[len(days)-1]
	}
	return days[week-1]
}

var (
	badRuleMonths   = append([]int{1, 12}, badMonths...)
	badRuleWeeks    = append([]int{0, 6, 7, 8, 10, 256 + 1, 256 + 5}, farNumbers...)
	badRuleWeekdays = append([]int{7, 8, 13, 14, 256, 256 + 6}, farNumbers...)
	badRuleMinutes  = append([]int{1440, 1441, 2879, 2880, 1<<16 + 1, 1 << 32}, farNumbers...)
	badRuleYears    = badYears
)

var goodRules = []impl.Rule{
	{Month: 2, Week: 1, Weekday: 0, Minute: 0},
	{Month: 2, Week: 5, Weekday: 6, Minute: 1439},
	{Month: 3, Week: 5, Weekday: 6, Minute: 120},
	{Month: 6, Week: 3, Weekday: 3, Minute: 720},
	{Month: 11, Week: 1, Weekday: 6, Minute: 1},
	{Month: 11, Week: 5, Weekday: 0, Minute: 1439},
}

// badRules are valid rules in which one part is out of its range, and rules in which several are.
func badRules() []impl.Rule {
	list := []impl.Rule{{}, {Month: 1, Week: 6, Weekday: 7, Minute: 1440}, {Month: 12, Week: 0, Weekday: -1, Minute: -1}, {Month: 12, Week: 6}, {Week: 1}, {Month: 2}}
	for _, good := range goodRules {
		for _, month := range badRuleMonths {
			r := good
			r.Month = month
			list = append(list, r)
		}
		for _, week := range badRuleWeeks {
			r := good
			r.Week = week
			list = append(list, r)
		}
		for _, weekday := range badRuleWeekdays {
			r := good
			r.Weekday = weekday
			list = append(list, r)
		}
		for _, minute := range badRuleMinutes {
			r := good
			r.Minute = minute
			list = append(list, r)
		}
	}
	return list
}

// P30: rules are in 2..11, in the weeks 1..5, on a weekday, and at a minute of the day.
func TestP30RulesHaveMonths(t *testing.T) {
	for month := -1; month <= 14; month++ {
		for week := -1; week <= 7; week++ {
			for weekday := -2; weekday <= 8; weekday++ {
				for _, minute := range []int{-60, -1, 0, 1, 719, 1438, 1439, 1440, 1441, 1500} {
					r := impl.Rule{Month: month, Week: week, Weekday: weekday, Minute: minute}
					want := month >= 2 && month <= 11 && week >= 1 && week <= 5 && weekday >= 0 && weekday <= 6 && minute >= 0 && minute <= 1439
					if got := impl.RuleValid(r); got != want {
						t.Fatalf("RuleValid(%v) = %v", r, got)
					}
				}
			}
		}
	}
}

func TestP30EveryMinuteOfADay(t *testing.T) {
	for minute := -2000; minute <= 4000; minute++ {
		r := impl.Rule{Month: 3, Week: 5, Weekday: 6, Minute: minute}
		if got, want := impl.RuleValid(r), minute >= 0 && minute <= 1439; got != want {
			t.Fatalf("RuleValid(%v) = %v", r, got)
		}
	}
}

func TestP30JanuaryAndTheSixthWeek(t *testing.T) {
	for _, r := range goodRules {
		if !impl.RuleValid(r) {
			t.Errorf("%v is invalid", r)
		}
		january, sixth := r, r
		january.Month, sixth.Week = 1, 6
		if impl.RuleValid(january) || impl.RuleValid(sixth) {
			t.Errorf("%v or %v is valid", january, sixth)
		}
	}
}

// P30 for rules that are invalid: they have no day and no moment in any year.
func TestInvalidRulesTellNothing(t *testing.T) {
	for _, r := range badRules() {
		if impl.RuleValid(r) {
			t.Errorf("%v is valid", r)
		}
		for _, year := range append([]int{1, 2024, 2026, 4000}, badRuleYears...) {
			refuseRule(t, r, year)
		}
	}
}

// P31 and P32 for years outside 1..4000: no day, and no moment.
func TestRulesTellNothingInOtherYears(t *testing.T) {
	for _, year := range badRuleYears {
		for _, r := range goodRules {
			refuseRule(t, r, year)
		}
	}
}

func refuseRule(t *testing.T, r impl.Rule, year int) {
	t.Helper()
	if got := impl.RuleDay(r, year); got != -1 {
		t.Errorf("RuleDay(%v, %d) = %d, want -1", r, year, got)
	}
	if got := impl.RuleMoment(r, year); got != -1 {
		t.Errorf("RuleMoment(%v, %d) = %d, want -1", r, year, got)
	}
}

// P31: the day is in the month, has the weekday, and is the one that the week tells, in every year.
func TestP31RulesTellDays(t *testing.T) {
	n := 0
	for year := 1; year <= impl.MaxYear; year++ {
		months := monthsWithDays(year, n)
		for month := 2; month <= 11; month++ {
			for weekday, days := range months[month] {
				for week := 1; week <= 5; week++ {
					r := impl.Rule{Month: month, Week: week, Weekday: weekday, Minute: year % 1440}
					if got, want := impl.RuleDay(r, year), dayByHand(days, week); got != want {
						t.Fatalf("RuleDay(%v, %d) = %d, want %d", r, year, got, want)
					}
				}
			}
		}
		n += 365
		if leapByHand(year) {
			n++
		}
	}
}

// P31 as the document words it: month and weekday, and so many such days before it, or none behind it.
func TestP31DaysAreInTheirWeeks(t *testing.T) {
	for _, year := range []int{1, 2, 4, 100, 400, 1900, 2000, 2023, 2024, 2026, 2100, 3999, 4000} {
		for month := 2; month <= 11; month++ {
			for weekday := 0; weekday <= 6; weekday++ {
				for week := 1; week <= 5; week++ {
					checkWeek(t, impl.Rule{Month: month, Week: week, Weekday: weekday, Minute: 61 * week}, year)
				}
			}
		}
	}
}

func checkWeek(t *testing.T, r impl.Rule, year int) {
	t.Helper()
	n := impl.RuleDay(r, year)
	d := dateOf(n)
	if d.year != year || d.month != r.Month || impl.WeekdayOf(n) != r.Weekday {
		t.Fatalf("RuleDay(%v, %d) = %d, which is %v with the weekday %d", r, year, n, d, impl.WeekdayOf(n))
	}
	if r.Week < 5 && (d.day-1)/7 != r.Week-1 {
		t.Fatalf("RuleDay(%v, %d) is %v, which is in another week", r, year, d)
	}
	if r.Week == 5 && d.day+7 <= monthByHand(year, r.Month) {
		t.Fatalf("RuleDay(%v, %d) is %v, which is not in the last week", r, year, d)
	}
}

func TestP31KnownDays(t *testing.T) {
	for _, k := range []struct {
		month, week, weekday int
		day                  date
	}{
		// March 2026 begins on a Sunday: five Sundays, Mondays and Tuesdays, and four of the others.
		{3, 1, 6, date{2026, 3, 1}},
		{3, 4, 6, date{2026, 3, 22}},
		{3, 5, 6, date{2026, 3, 29}},
		{3, 5, 1, date{2026, 3, 31}},
		{3, 1, 2, date{2026, 3, 4}},
		{3, 4, 2, date{2026, 3, 25}},
		{3, 5, 2, date{2026, 3, 25}},
		{3, 1, 5, date{2026, 3, 7}},
		{3, 5, 5, date{2026, 3, 28}},
		// November 2026 has 30 days and begins on a Sunday.
		{11, 2, 0, date{2026, 11, 9}},
		{11, 3, 0, date{2026, 11, 16}},
		{11, 5, 0, date{2026, 11, 30}},
		{11, 4, 1, date{2026, 11, 24}},
		{11, 5, 1, date{2026, 11, 24}},
		{10, 5, 6, date{2026, 10, 25}},
		// A February of 28 days has every weekday four times, and one of 29 days has one of them five times.
		{2, 1, 6, date{2026, 2, 1}},
		{2, 4, 6, date{2026, 2, 22}},
		{2, 5, 6, date{2026, 2, 22}},
		{2, 5, 5, date{2026, 2, 28}},
		{2, 1, 3, date{2024, 2, 1}},
		{2, 4, 3, date{2024, 2, 22}},
		{2, 5, 3, date{2024, 2, 29}},
		{2, 5, 4, date{2024, 2, 23}},
		{2, 5, 2, date{2024, 2, 28}},
		{2, 5, 1, date{2000, 2, 29}},
		{2, 5, 2, date{1900, 2, 28}},
		{2, 5, 3, date{1900, 2, 22}},
		{2, 1, 3, date{1, 2, 1}},
		{2, 5, 2, date{1, 2, 28}},
		{3, 1, 3, date{1, 3, 1}},
		{11, 5, 4, date{1, 11, 30}},
		{2, 1, 1, date{4000, 2, 1}},
		{2, 5, 1, date{4000, 2, 29}},
		{11, 5, 3, date{4000, 11, 30}},
	} {
		r := impl.Rule{Month: k.month, Week: k.week, Weekday: k.weekday, Minute: 1439}
		if got := dateOf(impl.RuleDay(r, k.day.year)); got != k.day {
			t.Errorf("RuleDay(%v, %d) is %v, want %v", r, k.day.year, got, k.day)
		}
	}
}

// P31: the minute does not move the day.
func TestP31MinutesAreInOneDay(t *testing.T) {
	for _, r := range goodRules {
		want := impl.RuleDay(r, 2026)
		for minute := 0; minute <= 1439; minute++ {
			r.Minute = minute
			if got := impl.RuleDay(r, 2026); got != want {
				t.Fatalf("RuleDay(%v, 2026) = %d, want %d", r, got, want)
			}
		}
	}
}

// P32: the moment is on the day, at the minute, in every year.
func TestP32RulesTellMoments(t *testing.T) {
	n := 0
	for year := 1; year <= impl.MaxYear; year++ {
		months := monthsWithDays(year, n)
		for month := 2; month <= 11; month++ {
			weekday, week := (year+month)%7, 1+(year+2*month)%5
			day := dayByHand(months[month][weekday], week)
			for _, minute := range []int{0, 1, (year*37 + month) % 1440, 1438, 1439} {
				r := impl.Rule{Month: month, Week: week, Weekday: weekday, Minute: minute}
				if got, want := impl.RuleMoment(r, year), day*86400+minute*60; got != want {
					t.Fatalf("RuleMoment(%v, %d) = %d, want %d", r, year, got, want)
				}
			}
		}
		n += 365
		if leapByHand(year) {
			n++
		}
	}
}

func TestP32EveryMinuteOfADay(t *testing.T) {
	for _, year := range []int{1, 1900, 2000, 2024, 2026, 4000} {
		for _, r := range goodRules {
			for minute := 0; minute <= 1439; minute++ {
				r.Minute = minute
				s := impl.StampOf(impl.RuleMoment(r, year))
				want := stampOn(dateOf(impl.RuleDay(r, year)), minute/60, minute%60, 0)
				if s != want || s.Year != year || s.Month != r.Month {
					t.Fatalf("RuleMoment(%v, %d) is %v, want %v", r, year, s, want)
				}
			}
		}
	}
}

func TestP32KnownMoments(t *testing.T) {
	for _, k := range []struct {
		rule  impl.Rule
		stamp impl.Stamp
		n     int
	}{
		{impl.Rule{Month: 3, Week: 5, Weekday: 6, Minute: 120}, stampOn(date{2026, 3, 29}, 2, 0, 0), 63910346400},
		{impl.Rule{Month: 11, Week: 3, Weekday: 0, Minute: 17*60 + 34}, stampOn(date{2026, 11, 16}, 17, 34, 0), 63930447240},
		{impl.Rule{Month: 2, Week: 1, Weekday: 3, Minute: 0}, stampOn(date{1, 2, 1}, 0, 0, 0), 31 * 86400},
		{impl.Rule{Month: 2, Week: 1, Weekday: 3, Minute: 1439}, stampOn(date{1, 2, 1}, 23, 59, 0), 32*86400 - 60},
		{impl.Rule{Month: 11, Week: 5, Weekday: 3, Minute: 1439}, stampOn(date{4000, 11, 30}, 23, 59, 0), lastMoment - 31*86400 - 59},
	} {
		got := impl.RuleMoment(k.rule, k.stamp.Year)
		if got != k.n || impl.StampOf(got) != k.stamp {
			t.Errorf("RuleMoment(%v, %d) = %d, which is %v, want %d, %v", k.rule, k.stamp.Year, got, impl.StampOf(got), k.n, k.stamp)
		}
	}
}
