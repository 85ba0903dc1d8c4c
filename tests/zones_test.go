package tests

import (
	"math"
	"slices"
	"sync"
	"testing"

	"loop.example/clockdaemon/impl"
)

const (
	firstZoneMoment = 34560000
	lastZoneMoment  = lastMoment - 34560000
	firstZoneYear   = 3
	lastZoneYear    = 3998
)

var (
	berlin   = impl.Zone{Offset: 60, Saving: 60, Start: sunday(3, 5, 120), End: sunday(10, 5, 180)}
	newYork  = impl.Zone{Offset: -300, Saving: 60, Start: sunday(3, 2, 120), End: sunday(11, 1, 120)}
	sydney   = impl.Zone{Offset: 600, Saving: 60, Start: sunday(10, 1, 120), End: sunday(4, 1, 180)}
	lordHowe = impl.Zone{Offset: 630, Saving: 30, Start: sunday(10, 1, 120), End: sunday(4, 1, 120)}
	chatham  = impl.Zone{Offset: 765, Saving: 60, Start: sunday(9, 5, 165), End: sunday(4, 1, 225)}
)

func sunday(month, week, minute int) impl.Rule {
	return impl.Rule{Month: month, Week: week, Weekday: 6, Minute: minute}
}

var plainZones = []impl.Zone{{}, {Offset: impl.MinOffset}, {Offset: -719}, {Offset: -1}, {Offset: 1}, {Offset: 330}, {Offset: 839}, {Offset: impl.MaxOffset}}

// summerZones have summers inside of a year and over its end, as short and as long as they may be, and changes on other days in common time.
var summerZones = []impl.Zone{
	berlin, newYork, sydney, lordHowe, chatham,
	{Offset: 0, Saving: 1, Start: impl.Rule{Month: 2, Week: 1, Weekday: 0, Minute: 0}, End: impl.Rule{Month: 11, Week: 5, Weekday: 6, Minute: 1439}},
	{Offset: 0, Saving: 1, Start: impl.Rule{Month: 11, Week: 5, Weekday: 6, Minute: 1439}, End: impl.Rule{Month: 2, Week: 1, Weekday: 0, Minute: 0}},
	{Offset: impl.MinOffset, Saving: impl.MaxSaving, Start: impl.Rule{Month: 2, Week: 1, Weekday: 3, Minute: 0}, End: impl.Rule{Month: 11, Week: 5, Weekday: 2, Minute: 1439}},
	{Offset: impl.MaxOffset, Saving: impl.MaxSaving, Start: impl.Rule{Month: 11, Week: 5, Weekday: 2, Minute: 1439}, End: impl.Rule{Month: 2, Week: 1, Weekday: 3, Minute: 0}},
	{Offset: impl.MaxOffset, Saving: impl.MaxSaving, Start: impl.Rule{Month: 3, Week: 1, Weekday: 0, Minute: 0}, End: impl.Rule{Month: 5, Week: 1, Weekday: 0, Minute: 0}},
	{Offset: impl.MinOffset, Saving: impl.MaxSaving, Start: impl.Rule{Month: 5, Week: 5, Weekday: 4, Minute: 1439}, End: impl.Rule{Month: 3, Week: 5, Weekday: 5, Minute: 1439}},
	{Offset: -60, Saving: 119, Start: impl.Rule{Month: 2, Week: 5, Weekday: 1, Minute: 60}, End: impl.Rule{Month: 4, Week: 1, Weekday: 1, Minute: 59}},
	{Offset: 540, Saving: 20, Start: impl.Rule{Month: 11, Week: 1, Weekday: 5, Minute: 720}, End: impl.Rule{Month: 9, Week: 5, Weekday: 5, Minute: 719}},
	{Offset: -90, Saving: 90, Start: impl.Rule{Month: 7, Week: 3, Weekday: 2, Minute: 1}, End: impl.Rule{Month: 9, Week: 2, Weekday: 2, Minute: 1438}},
}

func goodZones() []impl.Zone {
	return append(slices.Clone(plainZones), summerZones...)
}

// badOffsets and badSavings are outside of their ranges; some are valid when they are cut to fewer bits.
var (
	badOffsets = append(slices.DeleteFunc(slices.Clone(farNumbers), func(n int) bool { return n >= -720 && n <= 840 }), -721, -722, -1440, 841, 842, 960, 1440, 1<<16+60)
	badSavings = append([]int{-60, 121, 122, 180, 240, 256 + 60, 1<<16 + 60}, farNumbers...)
)

// badZones differ from valid zones in one part, or have parts that do not go together.
func badZones() []impl.Zone {
	list := []impl.Zone{
		{Saving: 60}, {Saving: impl.MaxSaving}, {Offset: impl.MaxOffset + 1}, {Offset: impl.MinOffset - 1},
		{Start: berlin.Start}, {End: berlin.End}, {Start: berlin.Start, End: berlin.End}, {Start: impl.Rule{Minute: 1}}, {End: impl.Rule{Weekday: 6}},
		{Start: impl.Rule{Month: 1}}, {End: impl.Rule{Week: -1}}, {Saving: 60, Start: berlin.Start}, {Saving: 60, End: berlin.End},
	}
	for _, z := range []impl.Zone{{}, berlin, sydney} {
		for _, offset := range badOffsets {
			changed := z
			changed.Offset = offset
			list = append(list, changed)
		}
		for _, saving := range badSavings {
			changed := z
			changed.Saving = saving
			list = append(list, changed)
		}
	}
	for _, z := range []impl.Zone{berlin, sydney} {
		none := z
		none.Saving = 0
		list = append(list, none)
		for month := z.Start.Month - 1; month <= z.Start.Month+1; month++ {
			near := z
			near.End.Month = month
			list = append(list, near)
		}
	}
	return append(list, zonesWithBadRules()...)
}

func zonesWithBadRules() []impl.Zone {
	var list []impl.Zone
	for _, r := range badRules() {
		for _, z := range []impl.Zone{berlin, sydney} {
			start, end, both := z, z, z
			start.Start, end.End, both.Start, both.End = r, r, r, r
			list = append(list, start, end, both)
		}
		if r != (impl.Rule{}) {
			list = append(list, impl.Zone{Start: r}, impl.Zone{End: r}, impl.Zone{Offset: 60, Start: r, End: r})
		}
	}
	return list
}

// handYears are the days of all years by month and weekday, counted once.
var handYears = sync.OnceValue(func() [][13]weekdayDays {
	years := make([][13]weekdayDays, impl.MaxYear+1)
	n := 0
	for year := 1; year <= impl.MaxYear; year++ {
		years[year] = monthsWithDays(year, n)
		n += 365
		if leapByHand(year) {
			n++
		}
	}
	return years
})

// handChange is a moment of common time from which on the offset is another one.
type handChange struct {
	at, offset int
	toSummer   bool
}

func momentByHand(r impl.Rule, year int) int {
	return dayByHand(handYears()[year][r.Month][r.Weekday], r.Week)*86400 + r.Minute*60
}

// changesByHand lists the changes of a zone in a year, in ascending order.
func changesByHand(z impl.Zone, year int) []handChange {
	if z.Saving == 0 {
		return nil
	}
	list := []handChange{
		{momentByHand(z.Start, year) - 60*z.Offset, z.Offset + z.Saving, true},
		{momentByHand(z.End, year) - 60*z.Offset - 60*z.Saving, z.Offset, false},
	}
	if z.Start.Month > z.End.Month {
		list[0], list[1] = list[1], list[0]
	}
	return list
}

// allChangesByHand lists the changes of a zone in all years, without asking for the year of a moment.
func allChangesByHand(z impl.Zone) []handChange {
	var list []handChange
	for year := 1; year <= impl.MaxYear; year++ {
		list = append(list, changesByHand(z, year)...)
	}
	return list
}

// offsetByHand follows the changes of a zone up to a moment that is not before the first one.
func offsetByHand(z impl.Zone, changes []handChange, n int) int {
	if len(changes) == 0 {
		return z.Offset
	}
	behind, _ := slices.BinarySearchFunc(changes, n, func(c handChange, n int) int {
		if c.at <= n {
			return -1
		}
		return 1
	})
	return changes[behind-1].offset
}

func checkOffset(t *testing.T, z impl.Zone, n, want int) {
	t.Helper()
	local := n + 60*want
	if n < firstZoneMoment || n > lastZoneMoment {
		want, local = -10000, -1
	}
	if got := impl.OffsetAt(z, n); got != want {
		t.Fatalf("OffsetAt(%v, %d) = %d, want %d", z, n, got, want)
	}
	if got := impl.LocalOf(z, n); got != local {
		t.Fatalf("LocalOf(%v, %d) = %d, want %d", z, n, got, local)
	}
}

func TestConstantsOfZones(t *testing.T) {
	if impl.MinOffset != -720 || impl.MaxOffset != 840 || impl.MaxSaving != 120 {
		t.Fatal(impl.MinOffset, impl.MaxOffset, impl.MaxSaving)
	}
}

// P33: another offset in -720..840 leaves a zone valid, and any other offset does not.
func TestP33OffsetsOfZones(t *testing.T) {
	for _, z := range goodZones() {
		if !impl.ZoneValid(z) {
			t.Fatalf("%v is invalid", z)
		}
		for offset := -1500; offset <= 1500; offset++ {
			z.Offset = offset
			if got, want := impl.ZoneValid(z), offset >= -720 && offset <= 840; got != want {
				t.Fatalf("ZoneValid(%v) = %v", z, got)
			}
		}
	}
}

// P33: with Saving 0 and a rule a zone is invalid, and with another Saving it has both rules.
func TestP33SavingsAndRules(t *testing.T) {
	for _, offset := range []int{-720, -1, 0, 1, 840} {
		for saving := -250; saving <= 250; saving++ {
			for _, k := range []struct {
				start, end impl.Rule
				least      int
			}{
				{berlin.Start, berlin.End, 1},
				{sydney.Start, sydney.End, 1},
				{impl.Rule{}, impl.Rule{}, 0},
				{berlin.Start, impl.Rule{}, 1000},
				{impl.Rule{}, berlin.End, 1000},
			} {
				z := impl.Zone{Offset: offset, Saving: saving, Start: k.start, End: k.end}
				want := saving >= k.least && saving <= 120
				if k.least == 0 {
					want = saving == 0
				}
				if got := impl.ZoneValid(z); got != want {
					t.Fatalf("ZoneValid(%v) = %v", z, got)
				}
			}
		}
	}
}

// P33: the months of both rules are in 2..11 and differ by at least 2, whatever their order is.
func TestP33MonthsOfRules(t *testing.T) {
	for start := -1; start <= 14; start++ {
		for end := -1; end <= 14; end++ {
			apart := start - end
			if apart < 0 {
				apart = -apart
			}
			want := start >= 2 && start <= 11 && end >= 2 && end <= 11 && apart >= 2
			for week := 1; week <= 5; week++ {
				z := impl.Zone{Offset: 60, Saving: 60, Start: sunday(start, week, 120), End: sunday(end, 6-week, 180)}
				if got := impl.ZoneValid(z); got != want {
					t.Fatalf("ZoneValid(%v) = %v", z, got)
				}
				z.Saving = 0
				if impl.ZoneValid(z) {
					t.Fatalf("%v is valid", z)
				}
			}
		}
	}
}

// P33 for zones that are invalid: they have no offset, no time and no changes.
func TestP33InvalidZonesTellNothing(t *testing.T) {
	for _, z := range badZones() {
		if impl.ZoneValid(z) {
			t.Fatalf("%v is valid", z)
		}
		for _, n := range []int{-1, 0, firstZoneMoment - 1, firstZoneMoment, 63910342800, lastZoneMoment, lastZoneMoment + 1} {
			if offset, local := impl.OffsetAt(z, n), impl.LocalOf(z, n); offset != -10000 || local != -1 {
				t.Fatalf("OffsetAt(%v, %d) = %d, LocalOf %d", z, n, offset, local)
			}
		}
		for _, year := range []int{-1, 0, 2, 3, 2026, 3998, 3999} {
			if got := impl.ChangesOf(z, year); len(got) != 0 {
				t.Fatalf("ChangesOf(%v, %d) = %v", z, year, got)
			}
		}
	}
}

// P34: it is Offset before summer and behind it, and Saving more in it; a second before and at every change it differs.
func TestP34OffsetsChangeTwiceAYear(t *testing.T) {
	for _, z := range summerZones {
		before := z.Offset
		if z.Start.Month > z.End.Month {
			before += z.Saving
		}
		for _, c := range allChangesByHand(z) {
			if c.offset == before || before+c.offset != 2*z.Offset+z.Saving {
				t.Fatalf("%v changes from %d to %d at %d", z, before, c.offset, c.at)
			}
			checkOffset(t, z, c.at-86400, before)
			checkOffset(t, z, c.at-1, before)
			checkOffset(t, z, c.at, c.offset)
			checkOffset(t, z, c.at+1, c.offset)
			checkOffset(t, z, c.at+86400, c.offset)
			before = c.offset
		}
	}
}

// P34 for moments all over the years.
func TestP34OffsetsBetweenChanges(t *testing.T) {
	for _, z := range goodZones() {
		changes := allChangesByHand(z)
		for n := firstZoneMoment; n <= lastZoneMoment; n += 5000011 {
			checkOffset(t, z, n, offsetByHand(z, changes, n))
		}
	}
}

// P34 minute by minute through a leap year and the beginning of the next one.
func TestP34EveryMinuteOfAYear(t *testing.T) {
	from := dayOf(date{2023, 12, 30}) * 86400
	for _, z := range []impl.Zone{berlin, sydney, summerZones[5], summerZones[8], {Offset: -1}} {
		changes := allChangesByHand(z)
		for minute := 0; minute < 370*1440; minute++ {
			n := from + 60*minute + minute%2
			checkOffset(t, z, n, offsetByHand(z, changes, n))
		}
	}
}

// P34 around the beginning of each year, in common time and in the time of the zone, with and without Saving: a summer goes on there.
func TestP34OffsetsAroundNewYear(t *testing.T) {
	for _, z := range goodZones() {
		want := z.Offset
		if z.Start.Month > z.End.Month {
			want += z.Saving
		}
		for year := 3; year <= 3999; year++ {
			n := dayOf(date{year, 1, 1}) * 86400
			for _, minutes := range []int{0, z.Offset, z.Offset + z.Saving, -1440, 1440} {
				for second := -1; second <= 1; second++ {
					checkOffset(t, z, n-60*minutes+second, want)
				}
			}
		}
	}
}

// P34: without Saving it is always the same.
func TestP34OffsetsWithoutSaving(t *testing.T) {
	for offset := impl.MinOffset; offset <= impl.MaxOffset; offset++ {
		z := impl.Zone{Offset: offset}
		for n := firstZoneMoment; n <= lastZoneMoment; n += (lastZoneMoment - firstZoneMoment) / 120 {
			checkOffset(t, z, n, offset)
		}
		checkOffset(t, z, lastZoneMoment, offset)
	}
}

// P34 for moments that are near to the ends of the calendar, and for those that are none.
func TestP34MomentsOutOfRange(t *testing.T) {
	list := append([]int{0, 1, 86400, firstZoneMoment - 86400, firstZoneMoment - 1, lastZoneMoment + 1, lastZoneMoment + 86400, lastMoment - 1, lastMoment, 1<<40 + firstZoneMoment}, badMoments...)
	for _, z := range goodZones() {
		changes := allChangesByHand(z)
		for _, n := range list {
			checkOffset(t, z, n, math.MaxInt)
		}
		for second := 0; second <= 2; second++ {
			checkOffset(t, z, firstZoneMoment+second, offsetByHand(z, changes, firstZoneMoment+second))
			checkOffset(t, z, lastZoneMoment-second, offsetByHand(z, changes, lastZoneMoment-second))
			checkOffset(t, z, firstZoneMoment-1-second, 0)
			checkOffset(t, z, lastZoneMoment+1+second, 0)
		}
	}
}

// P34 and P35 for zones that people live in.
func TestP35KnownChanges(t *testing.T) {
	for _, k := range []struct {
		zone          impl.Zone
		first, second impl.Stamp
		summer        bool
	}{
		{berlin, stampOn(date{2026, 3, 29}, 1, 0, 0), stampOn(date{2026, 10, 25}, 1, 0, 0), true},
		{berlin, stampOn(date{2024, 3, 31}, 1, 0, 0), stampOn(date{2024, 10, 27}, 1, 0, 0), true},
		{newYork, stampOn(date{2026, 3, 8}, 7, 0, 0), stampOn(date{2026, 11, 1}, 6, 0, 0), true},
		{sydney, stampOn(date{2026, 4, 4}, 16, 0, 0), stampOn(date{2026, 10, 3}, 16, 0, 0), false},
		{lordHowe, stampOn(date{2026, 4, 4}, 15, 0, 0), stampOn(date{2026, 10, 3}, 15, 30, 0), false},
		{chatham, stampOn(date{2026, 4, 4}, 14, 0, 0), stampOn(date{2026, 9, 26}, 14, 0, 0), false},
	} {
		got := impl.ChangesOf(k.zone, k.first.Year)
		if len(got) != 2 || impl.StampOf(got[0]) != k.first || impl.StampOf(got[1]) != k.second {
			t.Fatalf("ChangesOf(%v, %d) = %v, want %v and %v", k.zone, k.first.Year, got, k.first, k.second)
		}
		if (impl.OffsetAt(k.zone, got[0]) > k.zone.Offset) != k.summer || (impl.OffsetAt(k.zone, got[1]) > k.zone.Offset) == k.summer {
			t.Errorf("%v has summer at the wrong change", k.zone)
		}
	}
}

// P35: there are two changes in every year, in order; between them it is summer, or the rest of the year is.
func TestP35ChangesAreInOrder(t *testing.T) {
	for _, z := range summerZones {
		for year := firstZoneYear; year <= lastZoneYear; year++ {
			want := changesByHand(z, year)
			got := impl.ChangesOf(z, year)
			if len(got) != 2 || got[0] != want[0].at || got[1] != want[1].at || got[0] >= got[1] {
				t.Fatalf("ChangesOf(%v, %d) = %v, want %v", z, year, got, want)
			}
			between, rest := z.Offset+z.Saving, z.Offset
			if !want[0].toSummer {
				between, rest = rest, between
			}
			for _, n := range []int{got[0], got[0] + 1, (got[0] + got[1]) / 2, got[1] - 1} {
				checkOffset(t, z, n, between)
			}
			for _, n := range []int{got[0] - 1, got[0] - 20*86400, got[1], got[1] + 20*86400} {
				checkOffset(t, z, n, rest)
			}
		}
	}
}

// P35: the changes of a year are in it also in the time of the zone.
func TestP35ChangesAreInTheirYear(t *testing.T) {
	for _, z := range summerZones {
		for year := firstZoneYear; year <= lastZoneYear; year++ {
			for _, n := range impl.ChangesOf(z, year) {
				if s := impl.StampOf(impl.LocalOf(z, n)); s.Year != year {
					t.Fatalf("ChangesOf(%v, %d) has %d, which is %v", z, year, n, s)
				}
			}
		}
	}
}

func TestP35NoChangesWithoutSaving(t *testing.T) {
	for offset := impl.MinOffset; offset <= impl.MaxOffset; offset++ {
		for _, year := range []int{3, 4, 2024, 2026, 3997, 3998} {
			if got := impl.ChangesOf(impl.Zone{Offset: offset}, year); len(got) != 0 {
				t.Fatalf("a zone without Saving changes at %v", got)
			}
		}
	}
}

// P35 for years in which the changes are not told.
func TestP35YearsOutOfRange(t *testing.T) {
	for _, z := range goodZones() {
		for _, year := range append([]int{1, 2, 3999, 4000, 4001, 1<<16 + 2026}, badYears...) {
			if got := impl.ChangesOf(z, year); len(got) != 0 {
				t.Fatalf("ChangesOf(%v, %d) = %v", z, year, got)
			}
		}
	}
}

// P35: every call returns new memory.
func TestP35ChangesAreNew(t *testing.T) {
	first := impl.ChangesOf(berlin, 2026)
	want := slices.Clone(first)
	second := impl.ChangesOf(berlin, 2026)
	first[0], first[1] = -1, -2
	first = append(first[:1], 7, 8, 9)
	if third := impl.ChangesOf(berlin, 2026); !slices.Equal(second, want) || !slices.Equal(third, want) || len(first) != 4 {
		t.Fatal(first, second, third)
	}
}

// P100: in a day the time of a zone goes on by a day, by Saving more over the start of summer, and by Saving less over its end.
func TestP100DaysOverChanges(t *testing.T) {
	for _, z := range summerZones {
		for year := firstZoneYear; year <= lastZoneYear; year++ {
			for _, c := range changesByHand(z, year) {
				other := 86400 - 60*z.Saving
				if c.toSummer {
					other = 86400 + 60*z.Saving
				}
				for _, k := range [][2]int{{-86401, 86400}, {-86400, other}, {-43200, other}, {-1, other}, {0, 86400}, {1, 86400}} {
					n := c.at + k[0]
					if got := impl.LocalOf(z, n+86400) - impl.LocalOf(z, n); got != k[1] {
						t.Fatalf("in a day from %d on the time of %v goes on by %d, want %d", n, z, got, k[1])
					}
				}
			}
		}
	}
}

// P100 for days that begin at any moment, as the document words it.
func TestP100DaysInZones(t *testing.T) {
	for _, z := range goodZones() {
		check := func(n int) {
			got := impl.LocalOf(z, n+86400) - impl.LocalOf(z, n)
			if got != 86400 && got != 86400+60*z.Saving && got != 86400-60*z.Saving {
				t.Fatalf("in a day from %d on the time of %v goes on by %d", n, z, got)
			}
		}
		for n := firstZoneMoment; n <= lastZoneMoment-86400; n += 3000017 {
			check(n)
		}
		check(lastZoneMoment - 86400)
	}
}

// P100: all days of a year together have a year's time, as one change makes up for the other.
func TestP100YearsInZones(t *testing.T) {
	for _, z := range goodZones() {
		for _, year := range []int{3, 4, 2023, 2024, 2026, 3997} {
			n := dayOf(date{year, 1, 15})*86400 - 60*z.Offset
			later := dayOf(date{year + 1, 1, 15})*86400 - 60*z.Offset
			short, long := 0, 0
			for m := n; m < later; m += 86400 {
				switch impl.LocalOf(z, m+86400) - impl.LocalOf(z, m) {
				case 86400 - 60*z.Saving:
					short++
				case 86400 + 60*z.Saving:
					long++
				}
			}
			days := 365
			if leapByHand(year) {
				days++
			}
			if z.Saving > 0 && (short != 1 || long != 1) || z.Saving == 0 && (short != days || long != 0) {
				t.Fatalf("%v has %d short and %d long days from %d on", z, short, long, n)
			}
			if impl.LocalOf(z, later)-impl.LocalOf(z, n) != days*86400 {
				t.Fatalf("%v has no full year from %d on", z, n)
			}
		}
	}
}
