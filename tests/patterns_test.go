package tests

import (
	"iter"
	"math"
	"math/rand/v2"
	"regexp"
	"strconv"
	"strings"
	"testing"

	"loop.example/clockdaemon/impl"
)

// patternSets are the sets of the minutes, hours, days, months and weekdays.
type patternSets [5]int

func (sets patternSets) pattern() impl.Pattern {
	return impl.Pattern{Minutes: sets[0], Hours: sets[1], Days: sets[2], Months: sets[3], Weekdays: sets[4]}
}

// with returns the sets with another one at a place.
func (sets patternSets) with(place, set int) patternSets {
	sets[place] = set
	return sets
}

// allTimes has all numbers of each field.
var allTimes = func() patternSets {
	var sets patternSets
	for i, f := range patternFields {
		sets[i] = f.full()
	}
	return sets
}()

// knownPatterns are texts that were read without the program; short is the text of the pattern.
var knownPatterns = []struct {
	text  string
	lists [5][]int
	short string
}{
	{"0 9 1 11 0", [5][]int{{0}, {9}, {1}, {11}, {0}}, "0 9 1 11 0"},
	{"0 0 1 1 0", [5][]int{{0}, {0}, {1}, {1}, {0}}, "0 0 1 1 0"},
	{"59 23 31 12 6", [5][]int{{59}, {23}, {31}, {12}, {6}}, "59 23 31 12 6"},
	{"00 00 01 01 00", [5][]int{{0}, {0}, {1}, {1}, {0}}, "0 0 1 1 0"},
	{"0-59 0-23 1 1 0", [5][]int{patternFields[0].numbers(), patternFields[1].numbers(), {1}, {1}, {0}}, "* * 1 1 0"},
	{"0 0 1-31 1-12 0-6", [5][]int{{0}, {0}, patternFields[2].numbers(), patternFields[3].numbers(), patternFields[4].numbers()}, "0 0 * * *"},
	{"*/20 */6 */10 */4 */3", [5][]int{{0, 20, 40}, {0, 6, 12, 18}, {1, 11, 21, 31}, {1, 5, 9}, {0, 3, 6}}, "0,20,40 0,6,12,18 1,11,21,31 1,5,9 0,3,6"},
	{"20/20 6/6 10/10 4/4 3/3", [5][]int{{20, 40}, {6, 12, 18}, {10, 20, 30}, {4, 8, 12}, {3, 6}}, "20,40 6,12,18 10,20,30 4,8,12 3,6"},
	{"1-5 1-5 1-5 1-5 1-5", [5][]int{{1, 2, 3, 4, 5}, {1, 2, 3, 4, 5}, {1, 2, 3, 4, 5}, {1, 2, 3, 4, 5}, {1, 2, 3, 4, 5}}, "1-5 1-5 1-5 1-5 1-5"},
	{"58/1,0 22,23,1 30-31,29 11-12/1 5,6,0", [5][]int{{0, 58, 59}, {1, 22, 23}, {29, 30, 31}, {11, 12}, {0, 5, 6}}, "0,58-59 1,22-23 29-31 11-12 0,5-6"},
}

// somePatterns have their days by months and weekdays in all ways that the document names.
var somePatterns = []string{
	"* * * * *", "0 9 * * 0-4", "0 0 1 * 0", "0 0 1 11 *", "59 23 31 12 *", "59 23 31 12 6", "0 0 * * 6", "0 0 * 2 6", "0 0 29 2 *", "0 0 29 2 6", "0 0 30 2 *", "0 0 31 2,4,6,9,11 *", "0 0 31 2,4,6,9,11 0",
	"30 12 29-31 * *", "30 12 31 * *", "30 12 31 1/2 5,6", "*/7 */5 */9 */4 */3", "0-58 * 1-30 * 0-5", "0 1-23 2-31 * 1-6", "0 0 2-31 2-12 *", "* * * 1-11 1-6", "1 1 15 6 2", "0 0 1-31 1 0-6", "0 12 13 * 4", "59 * 28 2 0-5",
}

// someStretches are first and last years, with leap years, years without a leap day and the ends of all days among them.
var someStretches = [][2]int{{1, 9}, {96, 105}, {396, 404}, {1896, 1904}, {1996, 2030}, {2096, 2104}, {3990, 4000}}

// numbers returns all numbers of a field.
func (f field) numbers() []int {
	var list []int
	for n := f.lo; n <= f.hi; n++ {
		list = append(list, n)
	}
	return list
}

// hasByHand asks for the power of 2 of a number in a sum of powers of 2.
func hasByHand(set, n int) bool {
	return set/(1<<n)%2 == 1
}

// dayFitsByHand goes through the four cases of days and weekdays.
func dayFitsByHand(p impl.Pattern, d date, weekday int) bool {
	if !hasByHand(p.Months, d.month) {
		return false
	}
	everyDay, everyWeekday := p.Days == allTimes[2], p.Weekdays == allTimes[4]
	switch {
	case everyDay && everyWeekday:
		return true
	case everyDay:
		return hasByHand(p.Weekdays, weekday)
	case everyWeekday:
		return hasByHand(p.Days, d.day)
	}
	return hasByHand(p.Days, d.day) || hasByHand(p.Weekdays, weekday)
}

// patternTextByHand writes the five texts that were made by hand.
func patternTextByHand(sets patternSets) string {
	text := ""
	for i, f := range patternFields {
		text += " " + fieldTextByHand(sets[i], f)
	}
	return text[1:]
}

// patternPlaces finds the fields of a text; whether they can be read is seen from each.
var patternPlaces = regexp.MustCompile(`(?s)\A([^ ]+) ([^ ]+) ([^ ]+) ([^ ]+) ([^ ]+)\z`)

func patternByHand(text string) (impl.Pattern, bool) {
	found := patternPlaces.FindStringSubmatch(text)
	if found == nil {
		return impl.Pattern{}, false
	}
	var sets patternSets
	for i, f := range patternFields {
		set, ok := fieldByHand(found[i+1], f)
		if !ok {
			return impl.Pattern{}, false
		}
		sets[i] = set
	}
	return sets.pattern(), true
}

// readByHand returns the pattern of a text that is one.
func readByHand(t *testing.T, text string) impl.Pattern {
	t.Helper()
	p, ok := patternByHand(text)
	if !ok {
		t.Fatalf("%q is no pattern", text)
	}
	return p
}

// drawnSets yields sets of valid patterns, drawn with a fixed seed.
func drawnSets(count int) iter.Seq[patternSets] {
	return func(yield func(patternSets) bool) {
		var all [5][]int
		for i, f := range patternFields {
			all[i] = append(f.someSets(), f.full(), f.full())
		}
		draw := rand.New(rand.NewPCG(8, 46))
		for range count {
			var sets patternSets
			for i, list := range all {
				sets[i] = list[draw.IntN(len(list))]
			}
			if !yield(sets) {
				return
			}
		}
	}
}

// setsEachPlace yields sets of valid patterns with each set of someSets, and each number alone, at its place, among sets of all numbers and among others.
func setsEachPlace() iter.Seq[patternSets] {
	return func(yield func(patternSets) bool) {
		for _, others := range []patternSets{allTimes, {1, 1, 2, 2, 1}, {1 << 59, 1 << 23, 1 << 31, 1 << 12, 1 << 6}} {
			for i, f := range patternFields {
				list := append(f.someSets(), f.full())
				for _, n := range f.numbers() {
					list = append(list, 1<<n)
				}
				for _, set := range list {
					if !yield(others.with(i, set)) {
						return
					}
				}
			}
		}
	}
}

// badPatterns yields patterns with a set at one of the five places that is none of the field: empty, negative, or with a number outside.
func badPatterns() iter.Seq[impl.Pattern] {
	return func(yield func(impl.Pattern) bool) {
		for _, others := range []patternSets{allTimes, {1, 1, 2, 2, 1}, {1 << 59, 1 << 23, 1 << 31, 1 << 12, 1 << 6}} {
			for i, f := range patternFields {
				for _, set := range f.badSets() {
					if !yield(others.with(i, set).pattern()) {
						return
					}
				}
			}
		}
	}
}

// daysIn yields all days of some years with their dates, which are counted from the first one on.
func daysIn(t *testing.T, first, last int) iter.Seq2[int, date] {
	return func(yield func(int, date) bool) {
		d := date{first, 1, 1}
		n := dayOf(d)
		if n < 0 {
			t.Fatal(d)
		}
		for ; d.year <= last; d = d.next() {
			if !yield(n, d) {
				return
			}
			n++
		}
	}
}

func checkPatternValid(t *testing.T, p impl.Pattern, want bool) {
	t.Helper()
	if got := impl.PatternValid(p); got != want {
		t.Fatalf("PatternValid(%v) = %v, want %v", p, got, want)
	}
}

func checkDayFits(t *testing.T, p impl.Pattern, n int, want bool) {
	t.Helper()
	if got := impl.DayFits(p, n); got != want {
		t.Fatalf("DayFits(%v, %d) = %v, want %v; the day is %v", p, n, got, want, dateOf(n))
	}
}

func checkPatternFits(t *testing.T, p impl.Pattern, n int, want bool) {
	t.Helper()
	if got := impl.PatternFits(p, n); got != want {
		t.Fatalf("PatternFits(%v, %d) = %v, want %v; the stamp is %v", p, n, got, want, impl.StampOf(n))
	}
}

// checkPatternText checks the text of a valid pattern, and that it can be read.
func checkPatternText(t *testing.T, p impl.Pattern, want string) {
	t.Helper()
	text := impl.PatternText(p)
	if text != want {
		t.Fatalf("PatternText(%v) = %q, want %q", p, text, want)
	}
	if got, ok := impl.ReadPattern(text); !ok || got != p {
		t.Fatalf("ReadPattern(%q) = %v, %v, want %v", text, got, ok, p)
	}
}

// checkReadPattern compares what is read with what is read by hand, reads the text of the pattern again, and refuses the text with a space more.
func checkReadPattern(t *testing.T, text string) {
	t.Helper()
	want, wantOK := patternByHand(text)
	got, ok := impl.ReadPattern(text)
	if got != want || ok != wantOK {
		t.Fatalf("ReadPattern(%q) = %v, %v, want %v, %v", text, got, ok, want, wantOK)
	}
	if !ok {
		return
	}
	checkPatternValid(t, got, true)
	short := impl.PatternText(got)
	if again, ok := impl.ReadPattern(short); !ok || again != got {
		t.Fatalf("ReadPattern(%q) = %v, %v, want %v as for %q", short, again, ok, got, text)
	}
	refusePatternText(t, text+" ")
	refusePatternText(t, " "+text)
}

func refusePatternText(t *testing.T, text string) {
	t.Helper()
	if got, ok := impl.ReadPattern(text); ok || got != (impl.Pattern{}) {
		t.Fatalf("ReadPattern(%q) = %v, %v, want the zero value and false", text, got, ok)
	}
}

// refusePattern checks that there is nothing that fits an invalid pattern, and no text.
func refusePattern(t *testing.T, p impl.Pattern) {
	t.Helper()
	checkPatternValid(t, p, false)
	for _, n := range []int{0, 6, 30, 59, 364, 739920, 739935, impl.MaxDay} {
		checkDayFits(t, p, n, false)
		checkPatternFits(t, p, n*86400, false)
		checkPatternFits(t, p, n*86400+86399, false)
	}
	if text := impl.PatternText(p); text != "" {
		t.Fatalf("PatternText(%v) = %q, want no text", p, text)
	}
}

func TestP46PatternsHaveSets(t *testing.T) {
	for sets := range setsEachPlace() {
		checkPatternValid(t, sets.pattern(), true)
		checkPatternValid(t, sets.with(0, 0).pattern(), false)
		checkPatternValid(t, sets.with(4, 127).pattern(), true)
	}
	for sets := range drawnSets(20000) {
		checkPatternValid(t, sets.pattern(), true)
		for i := range sets {
			checkPatternValid(t, sets.with(i, 0).pattern(), false)
			checkPatternValid(t, sets.with(i, -sets[i]).pattern(), false)
			checkPatternValid(t, sets.with(i, allTimes[i]).pattern(), true)
		}
	}
}

func TestP46SetsOfOneNumber(t *testing.T) {
	for i, f := range patternFields {
		for n := range 63 {
			inside := n >= f.lo && n <= f.hi
			checkPatternValid(t, allTimes.with(i, 1<<n).pattern(), inside)
			checkPatternValid(t, allTimes.with(i, f.full()|1<<n).pattern(), inside)
		}
	}
}

func TestP46InvalidPatterns(t *testing.T) {
	for p := range badPatterns() {
		refusePattern(t, p)
	}
	for _, sets := range []patternSets{{}, {-1, -1, -1, -1, -1}, {0, 1, 2, 2, 1}, {math.MinInt, math.MinInt, math.MinInt, math.MinInt, math.MinInt}, {math.MaxInt, math.MaxInt, math.MaxInt, math.MaxInt, math.MaxInt}} {
		refusePattern(t, sets.pattern())
	}
}

// The set of one field at the place of another one is only valid if its numbers are in that field, too.
func TestP46SetsAtOtherPlaces(t *testing.T) {
	for i, f := range patternFields {
		for j := range patternFields {
			for _, set := range patternFields[j].someSets() {
				sets := allTimes.with(i, set)
				if fieldValidByHand(set, f) {
					checkPatternValid(t, sets.pattern(), true)
				} else {
					refusePattern(t, sets.pattern())
				}
			}
		}
	}
}

func TestP47KnownDays(t *testing.T) {
	for _, known := range []struct {
		text string
		date
		fits bool
	}{
		{"0 0 1 * 0", date{2026, 11, 1}, true},   // a Sunday, but the first
		{"0 0 1 * 0", date{2026, 11, 2}, true},   // a Monday
		{"0 0 1 * 0", date{2026, 11, 3}, false},  // neither
		{"0 0 2 * 0", date{2026, 11, 2}, true},   // both
		{"0 0 1 11 0", date{2026, 12, 1}, false}, // another month
		{"0 0 1 11 0", date{2026, 12, 7}, false}, // a Monday of another month
		{"0 0 1 * *", date{2026, 11, 1}, true},
		{"0 0 1 * *", date{2026, 11, 2}, false}, // weekdays have all numbers: the day of the month decides
		{"0 0 1 * 0-6", date{2026, 11, 2}, false},
		{"0 0 1 * */1", date{2026, 11, 2}, false},
		{"0 0 * * 0", date{2026, 11, 2}, true},
		{"0 0 * * 0", date{2026, 11, 1}, false}, // days have all numbers: the weekday decides
		{"0 0 1-31 * 0", date{2026, 11, 1}, false},
		{"0 0 1-30 * 0", date{2026, 11, 1}, true}, // one number is left out: one of both is enough
		{"0 0 1-30 * 0", date{2026, 12, 31}, false},
		{"0 0 */2 * 1", date{2026, 11, 5}, true}, // not all numbers, although the text begins with *
		{"0 0 1 * 0-5", date{2026, 11, 2}, true},
		{"0 0 1 * 0-5", date{2026, 11, 8}, false},
		{"0 0 * * 6", date{2026, 11, 1}, true},
		{"0 0 * * 6", date{2026, 11, 2}, false},
		{"0 0 29 2 *", date{2024, 2, 29}, true},
		{"0 0 29 2 *", date{2024, 2, 28}, false},
		{"0 0 29 2 *", date{2024, 3, 29}, false},
		{"0 0 29 2 *", date{2023, 3, 1}, false},
		{"0 0 30 2 *", date{2024, 3, 1}, false},
		{"0 0 31 11 *", date{2026, 12, 1}, false},
		{"0 0 1 1 *", date{1, 1, 1}, true},
		{"0 0 * 1 0", date{1, 1, 1}, true},
		{"0 0 31 12 *", date{4000, 12, 31}, true},
		{"0 0 * 12 6", date{4000, 12, 31}, true},
		{"0 0 * 1-11 6", date{4000, 12, 31}, false},
		{"0 0 * 2-12 0", date{1, 1, 1}, false},
	} {
		p, ok := impl.ReadPattern(known.text)
		if got := impl.DayFits(p, dayOf(known.date)); !ok || got != known.fits {
			t.Errorf("%q fits %v: %v, want %v", known.text, known.date, got, known.fits)
		}
	}
}

// How many days fit was counted without the program: 4000 years have 970 leap days, and 208710 full weeks.
func TestP47AllDays(t *testing.T) {
	for text, want := range map[string]int{"* * * * *": 1460970, "* * 29 2 *": 970, "* * 30 2 *": 0, "* * 31 2,4,6,9,11 *": 0, "* * 31 * *": 28000, "* * 30 * *": 44000, "* * * * 0": 208710, "* * * * 6": 208710, "* * * 2 *": 112970, "* * 1-30 * 0-5": 1460970 - sundaysByHand()} {
		p := readByHand(t, text)
		count := 0
		for n, d := range daysIn(t, 1, impl.MaxYear) {
			fits := dayFitsByHand(p, d, n%7)
			checkDayFits(t, p, n, fits)
			if fits {
				count++
			}
		}
		if count != want {
			t.Errorf("%d days fit %q, want %d", count, text, want)
		}
	}
}

// sundaysByHand counts the Sundays that are the 31st of a month.
func sundaysByHand() int {
	count, weekday := 0, 0
	for d := (date{1, 1, 1}); d.year <= impl.MaxYear; d = d.next() {
		if weekday == 6 && d.day == 31 {
			count++
		}
		weekday = (weekday + 1) % 7
	}
	return count
}

func TestP47DaysOfSomePatterns(t *testing.T) {
	for _, text := range somePatterns {
		p := readByHand(t, text)
		for _, years := range someStretches {
			for n, d := range daysIn(t, years[0], years[1]) {
				checkDayFits(t, p, n, dayFitsByHand(p, d, n%7))
			}
		}
	}
}

// Every set of weekdays with every single day of the month, with all of them, and with all but one, through a leap year.
func TestP47DaysAndWeekdays(t *testing.T) {
	list := []int{allTimes[2]}
	for n := 1; n <= 31; n++ {
		list = append(list, 1<<n, allTimes[2]-1<<n)
	}
	for weekdays := 1; weekdays < 128; weekdays++ {
		for _, set := range list {
			p := allTimes.with(2, set).with(4, weekdays).pattern()
			for n, d := range daysIn(t, 2024, 2024) {
				checkDayFits(t, p, n, dayFitsByHand(p, d, n%7))
			}
		}
	}
}

// P47: a day that fits has one of the months; with all days and weekdays every day of them fits.
func TestP47DaysFitByMonths(t *testing.T) {
	for months := 2; months < 1<<13; months += 2 {
		p := allTimes.with(3, months).pattern()
		for month := 1; month <= 12; month++ {
			for _, d := range []date{{2024, month, 1}, {2024, month, 15}, {2024, month, monthByHand(2024, month)}} {
				checkDayFits(t, p, dayOf(d), hasByHand(months, month))
			}
		}
	}
	for sets := range drawnSets(1000) {
		p, all := sets.pattern(), allTimes.with(3, sets[3]).pattern()
		for n, d := range daysIn(t, 2027, 2028) {
			inMonths := hasByHand(sets[3], d.month)
			if impl.DayFits(p, n) && !inMonths {
				t.Fatalf("%v fits %v", d, p)
			}
			checkDayFits(t, p, n, dayFitsByHand(p, d, n%7))
			checkDayFits(t, all, n, inMonths)
		}
	}
}

func TestP47NoSuchDays(t *testing.T) {
	for _, text := range somePatterns {
		p := readByHand(t, text)
		for _, n := range farNumbers {
			checkDayFits(t, p, n, false)
		}
		for n := 1; n < 400; n++ {
			checkDayFits(t, p, -n, false)
			checkDayFits(t, p, impl.MaxDay+n, false)
		}
	}
}

// DateOf has the month 0 and the day 0 for numbers that are no days; sets with 0 are invalid there, so that such numbers do not fit them.
func TestP47InvalidPatternsFitNoDay(t *testing.T) {
	for _, sets := range []patternSets{allTimes.with(2, 1), allTimes.with(3, 1), allTimes.with(2, allTimes[2]+1), allTimes.with(3, allTimes[3]+1), {}} {
		p := sets.pattern()
		for _, n := range append([]int{0, 1, 364, 739935, impl.MaxDay}, farNumbers...) {
			checkDayFits(t, p, n, false)
			checkPatternFits(t, p, n, false)
		}
	}
}

// checkDayTimes compares all minutes of a day, with some of their seconds, or with all of them.
func checkDayTimes(t *testing.T, p impl.Pattern, n int, d date, seconds []int) {
	t.Helper()
	fits := dayFitsByHand(p, d, n%7)
	for hour := range 24 {
		for minute := range 60 {
			want := fits && hasByHand(p.Hours, hour) && hasByHand(p.Minutes, minute)
			for _, second := range seconds {
				checkPatternFits(t, p, n*86400+hour*3600+minute*60+second, want)
			}
		}
	}
}

func TestP48TimesFitByDaysHoursAndMinutes(t *testing.T) {
	dates := []date{{1, 1, 1}, {1, 1, 2}, {2000, 2, 29}, {2023, 2, 28}, {2024, 2, 29}, {2024, 3, 1}, {2026, 11, 1}, {2026, 11, 2}, {2026, 11, 16}, {2026, 11, 30}, {2026, 12, 31}, {4000, 12, 30}, {4000, 12, 31}}
	for _, text := range somePatterns {
		p := readByHand(t, text)
		for _, d := range dates {
			checkDayTimes(t, p, dayOf(d), d, []int{0, 1, 30, 58, 59})
		}
	}
	for sets := range drawnSets(150) {
		for _, d := range []date{{1, 1, 1}, {2026, 11, 16}, {4000, 12, 31}} {
			checkDayTimes(t, sets.pattern(), dayOf(d), d, []int{0, 59})
		}
	}
}

// P48: all seconds of a minute fit or none.
func TestP48AllSecondsOfAMinute(t *testing.T) {
	seconds := field{0, 59}.numbers()
	for _, text := range []string{"0 9 * * 0-4", "*/7 */5 * * *", "59 23 31 12 *", "0 0 1 1 *", "* * * * *", "1-58 * 1 * 6"} {
		p := readByHand(t, text)
		for _, d := range []date{{1, 1, 1}, {2026, 11, 16}, {2026, 11, 22}, {4000, 12, 31}} {
			checkDayTimes(t, p, dayOf(d), d, seconds)
		}
	}
}

// Each minute of the day fits a pattern of its own alone.
func TestP48EachMinuteOfADay(t *testing.T) {
	d := date{2026, 11, 16}
	for hour := range 24 {
		for minute := range 60 {
			p := allTimes.with(0, 1<<minute).with(1, 1<<hour).pattern()
			at := dayOf(d)*86400 + hour*3600 + minute*60
			checkPatternFits(t, p, at-1, false)
			checkPatternFits(t, p, at, true)
			checkPatternFits(t, p, at+59, true)
			checkPatternFits(t, p, at+60, false)
			for _, other := range []int{60, 3600, 86400} {
				checkPatternFits(t, p, at-other, other == 86400)
				checkPatternFits(t, p, at+other, other == 86400)
			}
		}
	}
}

// With all hours and minutes a day fits from its first to its last second, or not at all.
func TestP48TimesOfDays(t *testing.T) {
	for _, text := range somePatterns {
		p := readByHand(t, text)
		p.Minutes, p.Hours = allTimes[0], allTimes[1]
		for n, d := range daysIn(t, 2023, 2028) {
			fits := dayFitsByHand(p, d, n%7)
			for _, second := range []int{0, 1, 59, 60, 43199, 43200, 86340, 86398, 86399} {
				checkPatternFits(t, p, n*86400+second, fits)
			}
		}
	}
}

func TestP48KnownTimes(t *testing.T) {
	for _, known := range []struct {
		text  string
		stamp impl.Stamp
		fits  bool
	}{
		{"0 9 * * 0-4", stampOn(date{2026, 11, 16}, 9, 0, 0), true},
		{"0 9 * * 0-4", stampOn(date{2026, 11, 16}, 9, 0, 59), true},
		{"0 9 * * 0-4", stampOn(date{2026, 11, 16}, 8, 59, 59), false},
		{"0 9 * * 0-4", stampOn(date{2026, 11, 16}, 9, 1, 0), false},
		{"0 9 * * 0-4", stampOn(date{2026, 11, 20}, 9, 0, 0), true},
		{"0 9 * * 0-4", stampOn(date{2026, 11, 21}, 9, 0, 0), false},
		{"0 0 1 1 *", stampOn(date{1, 1, 1}, 0, 0, 0), true},
		{"0 0 1 1 *", stampOn(date{1, 1, 1}, 0, 1, 0), false},
		{"59 23 31 12 *", stampOn(date{4000, 12, 31}, 23, 59, 59), true},
		{"59 23 31 12 *", stampOn(date{4000, 12, 31}, 23, 58, 59), false},
		{"0 24/1 * * *", stampOn(date{4000, 12, 31}, 0, 0, 0), false},
		{"30 2 29 2 *", stampOn(date{2024, 2, 29}, 2, 30, 30), true},
		{"30 2 29 2 *", stampOn(date{2023, 3, 1}, 2, 30, 30), false},
	} {
		p, _ := impl.ReadPattern(known.text)
		if got := impl.PatternFits(p, impl.MomentOf(known.stamp)); got != known.fits {
			t.Errorf("%q fits %v: %v, want %v", known.text, known.stamp, got, known.fits)
		}
	}
}

func TestP48NoSuchMoments(t *testing.T) {
	for _, text := range somePatterns {
		p := readByHand(t, text)
		for _, n := range badMoments {
			checkPatternFits(t, p, n, false)
		}
		for n := 1; n < 100000; n += 7 {
			checkPatternFits(t, p, -n, false)
			checkPatternFits(t, p, lastMoment+n, false)
		}
	}
}

// A wider set does not leave out times that fitted, but for days: with all of them the weekday alone decides.
func TestP48WiderMinutesAndHours(t *testing.T) {
	for sets := range drawnSets(2000) {
		p := sets.pattern()
		minutes, hours := sets.with(0, allTimes[0]).pattern(), sets.with(1, allTimes[1]).pattern()
		for n := 63930416400; n < 63930416400+10*86400; n += 7 * 60 {
			if impl.PatternFits(p, n) && (!impl.PatternFits(minutes, n) || !impl.PatternFits(hours, n)) {
				t.Fatalf("%d fits %v only without all minutes and hours", n, p)
			}
		}
	}
}

func TestP49KnownTexts(t *testing.T) {
	for _, known := range knownPatterns {
		var sets patternSets
		for i, list := range known.lists {
			sets[i] = setByHand(list)
		}
		checkPatternText(t, sets.pattern(), known.short)
		if got, ok := impl.ReadPattern(known.text); !ok || got != sets.pattern() {
			t.Errorf("ReadPattern(%q) = %v, %v, want %v", known.text, got, ok, sets.pattern())
		}
	}
	checkPatternText(t, allTimes.pattern(), "* * * * *")
}

func TestP49TextsOfPatterns(t *testing.T) {
	for sets := range setsEachPlace() {
		checkPatternText(t, sets.pattern(), patternTextByHand(sets))
	}
	for sets := range drawnSets(20000) {
		checkPatternText(t, sets.pattern(), patternTextByHand(sets))
	}
}

func TestP49NoTextsOfInvalidPatterns(t *testing.T) {
	for p := range badPatterns() {
		if text := impl.PatternText(p); text != "" {
			t.Fatalf("PatternText(%v) = %q, want no text", p, text)
		}
	}
	if text := impl.PatternText(impl.Pattern{}); text != "" {
		t.Fatalf("PatternText of the zero value is %q", text)
	}
}

func TestP50ReadPatternsCanBeWritten(t *testing.T) {
	for _, known := range knownPatterns {
		checkReadPattern(t, known.text)
	}
	for _, text := range somePatterns {
		checkReadPattern(t, text)
	}
	for sets := range drawnSets(5000) {
		checkReadPattern(t, patternTextByHand(sets))
	}
}

// Texts of each field at each place; at other places most of them are refused.
func TestP50FieldsAtEachPlace(t *testing.T) {
	var fields []string
	for _, known := range knownFields {
		fields = append(fields, known.text)
	}
	for n := range 101 {
		text := strconv.Itoa(n)
		fields = append(fields, text, text+"/2", "0"+text)
	}
	for _, others := range []string{"* * * * *", "0 0 1 1 0", "59 23 31 12 6"} {
		for _, text := range fields {
			for place := range 5 {
				checkReadPattern(t, withField(others, place, text))
			}
		}
	}
}

// withField returns a text of a pattern with another field at a place.
func withField(pattern string, place int, field string) string {
	fields := strings.Split(pattern, " ")
	fields[place] = field
	return strings.Join(fields, " ")
}

func TestP50RefusedFieldsAtEachPlace(t *testing.T) {
	for _, others := range []string{"* * * * *", "0 0 1 1 0", "*/2 0-5 31 12 6"} {
		for place, f := range patternFields {
			for _, text := range badFieldTexts {
				refusePatternText(t, withField(others, place, text))
			}
			for _, text := range []string{"60", "61", "99", "000", "100", "-1", "5-4", "*/0", "*/60", "1,", ",1", "*,60"} {
				refusePatternText(t, withField(others, place, text))
			}
			for _, n := range []int{f.lo - 1, f.hi + 1} {
				if n >= 0 {
					for _, text := range []string{"%", "%/1", "%-%", "*,%"} {
						refusePatternText(t, withField(others, place, strings.ReplaceAll(text, "%", strconv.Itoa(n))))
					}
				}
			}
		}
	}
	for _, text := range []string{"60 * * * *", "* 24 * * *", "* * 0 * *", "* * 32 * *", "* * * 0 *", "* * * 13 *", "* * * * 7", "* * * * SUN", "* * * JAN *", "* * L * *", "* * ? * *", "@daily"} {
		refusePatternText(t, text)
	}
}

func TestP50OtherNumbersOfFields(t *testing.T) {
	for count := range 12 {
		for _, part := range []string{"*", "1", "1-5", "*/2", ""} {
			text := strings.TrimPrefix(strings.Repeat(" "+part, count), " ")
			if count != 5 || part == "" {
				refusePatternText(t, text)
			} else {
				checkReadPattern(t, text)
			}
		}
	}
	for _, text := range []string{"", " ", "    ", "     ", "0 9 * *", "0 9 * * 0 2026", "0 0 9 * * 0", "* * * *", "* * * * * *", "*****", "*,*,*,*,*"} {
		refusePatternText(t, text)
	}
}

// Each of the four spaces, and both ends, with a space or another blank more, or with another blank instead of it.
func TestP50SpacesAndOtherBlanks(t *testing.T) {
	blanks := []string{"", " ", "  ", "\t", "\n", "\r", "\v", "\f", "\x00", "\x1f", "\u0085", "\u00a0", "\u2003", "\u2009", "\u200b", "\u3000", "\ufeff", "\x85", "\xa0", "\xff", "+", "_", "%20", " \t", "\t ", "\r\n"}
	for _, known := range knownPatterns {
		for _, blank := range blanks {
			fields := strings.Split(known.text, " ")
			if blank != " " {
				refusePatternText(t, strings.Join(fields, blank))
			}
			for i := 1; i < 5; i++ {
				first, second := strings.Join(fields[:i], " "), strings.Join(fields[i:], " ")
				if blank != "" {
					refusePatternText(t, first+" "+blank+second)
					refusePatternText(t, first+blank+" "+second)
				}
				if blank != " " {
					refusePatternText(t, first+blank+second)
				}
			}
			if blank != "" {
				refusePatternText(t, blank+known.text)
				refusePatternText(t, known.text+blank)
			}
		}
	}
}

func TestP50AllShortTexts(t *testing.T) {
	for text := range textsOver("* 1", 10) {
		checkReadPattern(t, text)
	}
	for text := range textsOver(" *", 13) {
		checkReadPattern(t, text)
	}
	for text := range textsOver(allBytes(), 2) {
		refusePatternText(t, text)
	}
}

func TestP50OtherBytes(t *testing.T) {
	for _, known := range knownPatterns {
		for _, texts := range []iter.Seq[string]{withOtherByte(known.text), withByteMore(known.text), withLess(known.text), strangeParts(known.text)} {
			for text := range texts {
				checkReadPattern(t, text)
			}
		}
	}
}

func TestP50LongTexts(t *testing.T) {
	for _, text := range []string{strings.Repeat(" ", 1<<20), strings.Repeat("* ", 1<<19), "* * * * *" + strings.Repeat(" ", 1<<20), "* * * * " + strings.Repeat("*", 1<<20), strings.Repeat("* * * * *\n", 1<<16), strings.Repeat("1,", 100000) + "60 * * * *"} {
		refusePatternText(t, text)
	}
	checkReadPattern(t, strings.Repeat("1,", 1000)+"2 * * * *")
}
