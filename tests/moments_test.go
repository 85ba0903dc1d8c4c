package tests

import (
	"math"
	"testing"

	"loop.example/clockdaemon/impl"
)

const lastMoment = 1460970*86400 - 1

// badMoments are no moments; some are when they are cut to fewer bits.
var badMoments = []int{
	math.MinInt, math.MinInt + 1, math.MinInt / 2, -1 << 40, math.MinInt32, -lastMoment, -86401, -86400, -2, -1,
	lastMoment + 1, lastMoment + 2, lastMoment + 86400, 1 << 40, math.MaxInt / 2, math.MaxInt - 1, math.MaxInt,
}

// badMonthSteps lead out of all years from anywhere; most of them are no numbers of months that the document allows.
var badMonthSteps = []int{
	math.MinInt, math.MinInt + 1, math.MinInt / 2, -1 << 40, -1 << 32, -(1 << 32) + 1, -1 << 16, -48002, -48001, -48000,
	48000, 48001, 48002, 1 << 16, 1 << 32, 1<<32 + 1, 1 << 40, math.MaxInt / 12, math.MaxInt / 2, math.MaxInt - 1, math.MaxInt,
}

var knownMoments = []struct {
	stamp impl.Stamp
	n     int
}{
	{stampOn(date{1, 1, 1}, 0, 0, 0), 0},
	{stampOn(date{1, 1, 1}, 0, 0, 59), 59},
	{stampOn(date{1, 1, 1}, 0, 1, 0), 60},
	{stampOn(date{1, 1, 1}, 0, 59, 59), 3599},
	{stampOn(date{1, 1, 1}, 1, 0, 0), 3600},
	{stampOn(date{1, 1, 1}, 23, 59, 59), 86399},
	{stampOn(date{1, 1, 2}, 0, 0, 0), 86400},
	{stampOn(date{1, 12, 31}, 23, 59, 59), 365*86400 - 1},
	{stampOn(date{2, 1, 1}, 0, 0, 0), 365 * 86400},
	{stampOn(date{1970, 1, 1}, 0, 0, 0), 62135596800},
	{stampOn(date{2000, 2, 29}, 12, 30, 15), 63087424215},
	{stampOn(date{2026, 11, 16}, 17, 34, 11), 63930447251},
	{stampOn(date{4000, 12, 31}, 0, 0, 0), lastMoment - 86399},
	{stampOn(date{4000, 12, 31}, 23, 59, 59), lastMoment},
}

func stampOn(d date, hour, minute, second int) impl.Stamp {
	return impl.Stamp{Year: d.year, Month: d.month, Day: d.day, Hour: hour, Minute: minute, Second: second}
}

// secondLater counts a stamp on by one second, without the program.
func secondLater(s impl.Stamp) impl.Stamp {
	s.Second++
	if s.Second == 60 {
		s.Second = 0
		s.Minute++
	}
	if s.Minute == 60 {
		s.Minute = 0
		s.Hour++
	}
	if s.Hour == 24 {
		d := date{s.Year, s.Month, s.Day}.next()
		return stampOn(d, 0, s.Minute, s.Second)
	}
	return s
}

// monthsByHand goes month by month; it reports false if the year is out of range at the end.
func monthsByHand(s impl.Stamp, months int) (impl.Stamp, bool) {
	for ; months > 0; months-- {
		s.Month++
		if s.Month > 12 {
			s.Month, s.Year = 1, s.Year+1
		}
	}
	for ; months < 0; months++ {
		s.Month--
		if s.Month < 1 {
			s.Month, s.Year = 12, s.Year-1
		}
	}
	if s.Year < 1 || s.Year > 4000 {
		return impl.Stamp{}, false
	}
	if last := monthByHand(s.Year, s.Month); s.Day > last {
		s.Day = last
	}
	return s, true
}

// badStamps are stamps without a date, or without a time of day.
func badStamps() []impl.Stamp {
	good := stampOn(date{2024, 2, 29}, 12, 30, 15)
	list := []impl.Stamp{{}, stampOn(date{2023, 2, 29}, 0, 0, 0), stampOn(date{1900, 2, 29}, 1, 2, 3), stampOn(date{2024, 2, 30}, 0, 0, 0), stampOn(date{2024, 4, 31}, 23, 59, 59), stampOn(date{2024, 12, 32}, 0, 0, 0)}
	add := func(change func(s *impl.Stamp)) {
		s := good
		change(&s)
		list = append(list, s)
	}
	for _, n := range farNumbers {
		add(func(s *impl.Stamp) { s.Hour = n })
		add(func(s *impl.Stamp) { s.Minute = n })
		add(func(s *impl.Stamp) { s.Second = n })
		add(func(s *impl.Stamp) { s.Day = n })
	}
	for _, year := range badYears {
		add(func(s *impl.Stamp) { s.Year = year })
	}
	for _, month := range badMonths {
		add(func(s *impl.Stamp) { s.Month = month })
	}
	for _, n := range []int{60, 61, 99, 256} {
		add(func(s *impl.Stamp) { s.Minute = n })
		add(func(s *impl.Stamp) { s.Second = n })
	}
	for _, n := range []int{24, 25, 59, 60, 256} {
		add(func(s *impl.Stamp) { s.Hour = n })
	}
	add(func(s *impl.Stamp) { s.Day = 0 })
	// A second too few or too many is not made up for by the other parts.
	add(func(s *impl.Stamp) { s.Minute, s.Second = 29, 75 })
	add(func(s *impl.Stamp) { s.Minute, s.Second = 31, -45 })
	add(func(s *impl.Stamp) { s.Hour, s.Minute = 11, 90 })
	add(func(s *impl.Stamp) { s.Day, s.Hour = 28, 36 })
	return list
}

func TestConstantsOfMoments(t *testing.T) {
	if impl.MaxMoment != lastMoment || lastMoment != 126227807999 {
		t.Fatal(impl.MaxMoment)
	}
}

func TestKnownMoments(t *testing.T) {
	for _, k := range knownMoments {
		if got := impl.MomentOf(k.stamp); got != k.n {
			t.Errorf("MomentOf(%v) = %d, want %d", k.stamp, got, k.n)
		}
		if got := impl.StampOf(k.n); got != k.stamp {
			t.Errorf("StampOf(%d) = %v, want %v", k.n, got, k.stamp)
		}
	}
}

// P3: StampOf the moment is the stamp, on every day.
func TestP3StampsAreMoments(t *testing.T) {
	n := 0
	for d := (date{1, 1, 1}); d.year <= impl.MaxYear; d = d.next() {
		for _, x := range [][3]int{{0, 0, 0}, {0, 0, 1}, {0, 59, 59}, {1, 0, 0}, {11, 59, 60 - 1}, {n % 24, n % 60, (n + n/60) % 60}, {23, 59, 59}} {
			s := stampOn(d, x[0], x[1], x[2])
			want := n*86400 + x[0]*3600 + x[1]*60 + x[2]
			if got := impl.MomentOf(s); got != want {
				t.Fatalf("MomentOf(%v) = %d, want %d", s, got, want)
			}
			if got := impl.StampOf(want); got != s {
				t.Fatalf("StampOf(%d) = %v, want %v", want, got, s)
			}
		}
		n++
	}
}

// P3 second by second, over midnights, the ends of months and of years.
func TestP3EverySecondOfSomeDays(t *testing.T) {
	for _, d := range []date{{1, 1, 1}, {1, 12, 31}, {1900, 2, 28}, {2000, 2, 28}, {2024, 2, 29}, {2026, 11, 30}, {4000, 12, 30}} {
		s := stampOn(d, 0, 0, 0)
		n := impl.MomentOf(s)
		for i := 0; i < 2*86400; i++ {
			if impl.MomentOf(s) != n+i || impl.StampOf(n+i) != s {
				t.Fatalf("MomentOf(%v) = %d, want %d, and the stamp of that is %v", s, impl.MomentOf(s), n+i, impl.StampOf(n+i))
			}
			s = secondLater(s)
		}
	}
}

// P4: MomentOf the stamp is the moment; the stamp is valid.
func TestP4MomentsAreStamps(t *testing.T) {
	check := func(n int) {
		s := impl.StampOf(n)
		if !impl.StampValid(s) || impl.MomentOf(s) != n {
			t.Fatalf("StampOf(%d) = %v, StampValid %v, MomentOf %d", n, s, impl.StampValid(s), impl.MomentOf(s))
		}
		if s.Hour < 0 || s.Hour > 23 || s.Minute < 0 || s.Minute > 59 || s.Second < 0 || s.Second > 59 || s.Day < 1 || s.Day > monthByHand(s.Year, s.Month) {
			t.Fatalf("StampOf(%d) = %v has no date or no time", n, s)
		}
	}
	for n := 0; n <= lastMoment; n += 40009 {
		check(n)
	}
	for n := 0; n < 100000; n++ {
		check(n)
		check(lastMoment - n)
	}
}

// P3 and P4 for what is no moment and no stamp.
func TestNoMomentsAndNoStamps(t *testing.T) {
	for _, n := range badMoments {
		if got := impl.StampOf(n); got != (impl.Stamp{}) {
			t.Errorf("StampOf(%d) = %v, want the zero value", n, got)
		}
	}
	for _, s := range badStamps() {
		if impl.StampValid(s) {
			t.Errorf("%v is valid", s)
		}
		if got := impl.MomentOf(s); got != -1 {
			t.Errorf("MomentOf(%v) = %d, want -1", s, got)
		}
		for _, months := range []int{-48000, -12, -1, 0, 1, 12, 48000} {
			if got, ok := impl.MonthsLater(s, months); ok || got != (impl.Stamp{}) {
				t.Errorf("MonthsLater(%v, %d) = %v, %v", s, months, got, ok)
			}
		}
	}
}

// P28: a stamp with the hour 24 is invalid; with the time 0 a valid stamp is valid.
func TestP28StampsHaveTimesOfDay(t *testing.T) {
	for d := (date{1, 1, 1}); d.year <= impl.MaxYear; d = d.next() {
		if !impl.StampValid(stampOn(d, 0, 0, 0)) || !impl.StampValid(stampOn(d, 23, 59, 59)) {
			t.Fatalf("%v has no first or no last second", d)
		}
		if impl.StampValid(stampOn(d, 24, 0, 0)) || impl.StampValid(stampOn(d, 24, 59, 59)) {
			t.Fatalf("%v has an hour 24", d)
		}
	}
}

func TestP28EveryTimeOfADay(t *testing.T) {
	for hour := -2; hour <= 26; hour++ {
		for minute := -2; minute <= 62; minute++ {
			for second := -2; second <= 62; second++ {
				s := stampOn(date{2024, 2, 29}, hour, minute, second)
				want := hour >= 0 && hour <= 23 && minute >= 0 && minute <= 59 && second >= 0 && second <= 59
				if got := impl.StampValid(s); got != want {
					t.Fatalf("StampValid(%v) = %v", s, got)
				}
				s.Day = 30
				if impl.StampValid(s) {
					t.Fatalf("%v is valid", s)
				}
			}
		}
	}
}

// P29: twelve months later it is the same month of the next year; the day of the month is not greater; with days up to 28 it goes back, too.
func TestP29MonthsAreCounted(t *testing.T) {
	for d := (date{1, 1, 1}); d.year < impl.MaxYear; d = d.next() {
		s := stampOn(d, 17, 34, 11)
		got, ok := impl.MonthsLater(s, 12)
		if !ok || got.Year != d.year+1 || got.Month != d.month || got.Day > d.day || got.Hour != 17 || got.Minute != 34 || got.Second != 11 {
			t.Fatalf("MonthsLater(%v, 12) = %v, %v", s, got, ok)
		}
		if back, ok := impl.MonthsLater(got, -12); d.day <= 28 && (!ok || back != s) {
			t.Fatalf("12 months back from %v is %v, %v, want %v", got, back, ok, s)
		}
		if same, ok := impl.MonthsLater(s, 0); !ok || same != s {
			t.Fatalf("MonthsLater(%v, 0) = %v, %v", s, same, ok)
		}
	}
}

func TestP29StepsOfAllLengths(t *testing.T) {
	for _, d := range []date{{1, 1, 31}, {1, 12, 31}, {1999, 11, 30}, {2000, 2, 29}, {2023, 12, 28}, {2024, 1, 29}, {2026, 3, 31}, {2100, 2, 28}, {3999, 8, 31}, {4000, 12, 31}} {
		for months := -60; months <= 60; months++ {
			checkMonths(t, stampOn(d, 23, 59, 58), months)
		}
		for months := -48000; months <= 48000; months += 997 {
			checkMonths(t, stampOn(d, 0, 1, 2), months)
		}
	}
}

func checkMonths(t *testing.T, s impl.Stamp, months int) {
	t.Helper()
	want, wantOk := monthsByHand(s, months)
	got, ok := impl.MonthsLater(s, months)
	if got != want || ok != wantOk {
		t.Fatalf("MonthsLater(%v, %d) = %v, %v, want %v, %v", s, months, got, ok, want, wantOk)
	}
	if !ok {
		return
	}
	if got.Day > s.Day || !impl.StampValid(got) {
		t.Fatalf("MonthsLater(%v, %d) = %v", s, months, got)
	}
	if back, ok := impl.MonthsLater(got, -months); s.Day <= 28 && (!ok || back != s) {
		t.Fatalf("%d months back from %v is %v, %v, want %v", months, got, back, ok, s)
	}
}

func TestP29KnownMonths(t *testing.T) {
	for _, k := range []struct {
		from   date
		months int
		to     date
	}{
		{date{2026, 1, 31}, 1, date{2026, 2, 28}},
		{date{2024, 1, 31}, 1, date{2024, 2, 29}},
		{date{1900, 1, 30}, 1, date{1900, 2, 28}},
		{date{2000, 1, 30}, 1, date{2000, 2, 29}},
		{date{2024, 2, 29}, 12, date{2025, 2, 28}},
		{date{2024, 2, 29}, 48, date{2028, 2, 29}},
		{date{2024, 2, 29}, -1, date{2024, 1, 29}},
		{date{2026, 3, 31}, -1, date{2026, 2, 28}},
		{date{2026, 12, 31}, 1, date{2027, 1, 31}},
		{date{2026, 1, 1}, -1, date{2025, 12, 1}},
		{date{2026, 11, 16}, -11, date{2025, 12, 16}},
		{date{2026, 5, 31}, -12 - 3, date{2025, 2, 28}},
		{date{2026, 10, 31}, 25, date{2028, 11, 30}},
		{date{1, 1, 31}, 47999, date{4000, 12, 31}},
		{date{4000, 12, 31}, -47999, date{1, 1, 31}},
		{date{4000, 12, 31}, -47998, date{1, 2, 28}},
		{date{1, 2, 28}, -1, date{1, 1, 28}},
		{date{4000, 11, 30}, 1, date{4000, 12, 30}},
	} {
		got, ok := impl.MonthsLater(stampOn(k.from, 1, 2, 3), k.months)
		if !ok || got != stampOn(k.to, 1, 2, 3) {
			t.Errorf("%d months behind %v is %v, %v, want %v", k.months, k.from, got, ok, k.to)
		}
	}
}

func TestP29MonthsOutOfAllYears(t *testing.T) {
	refuse := func(d date, months int) {
		t.Helper()
		if got, ok := impl.MonthsLater(stampOn(d, 1, 2, 3), months); ok || got != (impl.Stamp{}) {
			t.Errorf("%d months behind %v is %v, %v", months, d, got, ok)
		}
	}
	refuse(date{1, 1, 1}, -1)
	refuse(date{1, 1, 31}, -12)
	refuse(date{1, 12, 31}, -12)
	refuse(date{2, 1, 1}, -13)
	refuse(date{4000, 12, 1}, 1)
	refuse(date{4000, 1, 31}, 12)
	refuse(date{3999, 12, 31}, 13)
	for _, months := range badMonthSteps {
		for _, d := range []date{{1, 1, 1}, {1, 12, 31}, {2000, 2, 29}, {2026, 11, 16}, {4000, 1, 1}, {4000, 12, 31}} {
			refuse(d, months)
		}
	}
}

// P99: two steps of months from a day up to the 28th lead to the same as one.
func TestP99MonthsAddUp(t *testing.T) {
	steps := []int{-48000, -47999, -4801, -1200, -400, -37, -13, -12, -11, -2, -1, 0, 1, 2, 11, 12, 13, 37, 400, 1200, 4801, 47999, 48000}
	for _, d := range []date{{1, 1, 1}, {1, 1, 28}, {1, 12, 28}, {1600, 2, 28}, {1999, 12, 27}, {2024, 2, 28}, {2026, 11, 16}, {4000, 12, 28}} {
		s := stampOn(d, 6, 7, 8)
		for _, a := range steps {
			middle, ok := impl.MonthsLater(s, a)
			if !ok {
				continue
			}
			for _, b := range steps {
				got, ok := impl.MonthsLater(middle, b)
				want, wantOk := impl.MonthsLater(s, a+b)
				if got != want || ok != wantOk {
					t.Fatalf("from %v, %d and %d months lead to %v, %v, and %d months to %v, %v", s, a, b, got, ok, a+b, want, wantOk)
				}
			}
		}
	}
}

func TestP99MonthByMonthThroughAllYears(t *testing.T) {
	s := stampOn(date{1, 1, 28}, 23, 59, 59)
	at, ok := s, true
	for months := 0; months < 48000; months++ {
		want := stampOn(date{1 + months/12, 1 + months%12, 28}, 23, 59, 59)
		direct, directOk := impl.MonthsLater(s, months)
		if !ok || !directOk || at != want || direct != want {
			t.Fatalf("%d months behind %v is %v in single steps and %v in one, want %v", months, s, at, direct, want)
		}
		at, ok = impl.MonthsLater(at, 1)
	}
	if ok || at != (impl.Stamp{}) {
		t.Fatalf("48000 months behind %v is %v, %v", s, at, ok)
	}
}
