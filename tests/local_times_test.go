package tests

import (
	"math"
	"slices"
	"testing"

	"loop.example/clockdaemon/impl"
)

const (
	firstLocal = 34646400
	lastLocal  = lastMoment - 34646400
)

// edgeZones have the least and the greatest offsets and savings, and summers that go over the end of the year and that do not, with changes as early and as late in the year as they may be.
func edgeZones() []impl.Zone {
	var list []impl.Zone
	early, late := impl.Rule{Month: 2, Week: 1, Weekday: 0, Minute: 0}, impl.Rule{Month: 11, Week: 5, Weekday: 6, Minute: 1439}
	for _, offset := range []int{impl.MinOffset, -719, -1, 0, 1, 839, impl.MaxOffset} {
		for _, saving := range []int{1, 2, 60, 119, impl.MaxSaving} {
			list = append(list,
				impl.Zone{Offset: offset, Saving: saving, Start: early, End: late},
				impl.Zone{Offset: offset, Saving: saving, Start: late, End: early},
				impl.Zone{Offset: offset, Saving: saving, Start: berlin.Start, End: berlin.End},
				impl.Zone{Offset: offset, Saving: saving, Start: sydney.Start, End: sydney.End})
		}
	}
	return list
}

// optionsByHand tries both offsets of a zone, and keeps the moments that have them.
func optionsByHand(z impl.Zone, changes []handChange, local int) []int {
	var list []int
	for _, offset := range []int{z.Offset + z.Saving, z.Offset} {
		n := local - 60*offset
		if offsetByHand(z, changes, n) == offset && !slices.Contains(list, n) {
			list = append(list, n)
		}
	}
	return list
}

// startByHand returns the change to summer that leaves a local time out.
func startByHand(t *testing.T, z impl.Zone, changes []handChange, local int) int {
	t.Helper()
	for _, c := range changes {
		if c.toSummer && c.at+60*z.Offset <= local && local < c.at+60*z.Offset+60*z.Saving {
			return c.at
		}
	}
	t.Fatalf("no change of %v leaves out %d", z, local)
	return 0
}

// checkLocal compares the three functions with what is found by hand.
func checkLocal(t *testing.T, z impl.Zone, changes []handChange, local int) {
	t.Helper()
	if local < firstLocal || local > lastLocal {
		refuseLocal(t, z, local)
		return
	}
	options := optionsByHand(z, changes, local)
	if len(options) == 0 {
		start := startByHand(t, z, changes, local)
		checkAnswers(t, z, local, nil, start, start)
		return
	}
	checkAnswers(t, z, local, options, options[0], options[len(options)-1])
}

func checkAnswers(t *testing.T, z impl.Zone, local int, options []int, first, last int) {
	t.Helper()
	if got := impl.CommonOptions(z, local); !slices.Equal(got, options) {
		t.Fatalf("CommonOptions(%v, %d) = %v, want %v", z, local, got, options)
	}
	if got := impl.TimeKind(z, local); got != len(options) {
		t.Fatalf("TimeKind(%v, %d) = %d, want %d", z, local, got, len(options))
	}
	if got := impl.CommonOf(z, local, false); got != first {
		t.Fatalf("CommonOf(%v, %d, false) = %d, want %d", z, local, got, first)
	}
	if got := impl.CommonOf(z, local, true); got != last {
		t.Fatalf("CommonOf(%v, %d, true) = %d, want %d", z, local, got, last)
	}
}

func refuseLocal(t *testing.T, z impl.Zone, local int) {
	t.Helper()
	if got := impl.CommonOptions(z, local); len(got) != 0 {
		t.Fatalf("CommonOptions(%v, %d) = %v", z, local, got)
	}
	if got := impl.TimeKind(z, local); got != -1 {
		t.Fatalf("TimeKind(%v, %d) = %d", z, local, got)
	}
	for _, later := range []bool{false, true} {
		if got := impl.CommonOf(z, local, later); got != -1 {
			t.Fatalf("CommonOf(%v, %d, %v) = %d", z, local, later, got)
		}
	}
}

// changesNear lists the changes of a zone by hand in the years around a local time.
func changesNear(z impl.Zone, local int) []handChange {
	year := dateOf(local / 86400).year
	var list []handChange
	for near := max(year-1, 1); near <= min(year+1, impl.MaxYear); near++ {
		list = append(list, changesByHand(z, near)...)
	}
	return list
}

// edgesOf returns the first local time that a change leaves out or repeats, and the first one behind these.
func edgesOf(z impl.Zone, c handChange) (int, int) {
	first := c.at + 60*z.Offset
	return first, first + 60*z.Saving
}

// localsAround returns local times before, in and behind those that a change leaves out or repeats.
func localsAround(z impl.Zone, c handChange) []int {
	first, behind := edgesOf(z, c)
	return []int{first - 86400, first - 60*z.Saving - 1, first - 60*z.Saving, first - 60, first - 2, first - 1, first, first + 1, first + 30*z.Saving,
		behind - 60, behind - 2, behind - 1, behind, behind + 1, behind + 60, behind + 60*z.Saving - 1, behind + 60*z.Saving, behind + 86400}
}

// checkMoment asks for the options of the time that a zone has at a moment.
func checkMoment(t *testing.T, z impl.Zone, n int) {
	t.Helper()
	local := impl.LocalOf(z, n)
	options := impl.CommonOptions(z, local)
	if !slices.Contains(options, n) {
		t.Fatalf("CommonOptions(%v, %d) = %v is without %d", z, local, options, n)
	}
	if first, last := impl.CommonOf(z, local, false), impl.CommonOf(z, local, true); n != first && n != last {
		t.Fatalf("CommonOf(%v, %d) is %d or %d, but %d has this time", z, local, first, last, n)
	}
}

// P5 around both changes of years of all kinds.
func TestP5MomentsAroundChanges(t *testing.T) {
	for _, z := range summerZones {
		for year := firstZoneYear; year <= lastZoneYear; year += 3 {
			for _, c := range changesByHand(z, year) {
				for _, seconds := range []int{0, 1, 60, 60*z.Saving - 1, 60 * z.Saving, 60*z.Saving + 1, 86400} {
					checkMoment(t, z, c.at+seconds)
					checkMoment(t, z, c.at-seconds)
				}
			}
		}
	}
}

// P5 for moments all over the years.
func TestP5MomentsBetweenChanges(t *testing.T) {
	for _, z := range goodZones() {
		for n := firstLocal + 86400; n <= lastLocal-86400; n += 5000011 {
			checkMoment(t, z, n)
		}
	}
}

// P5 around the beginning of each year, where a summer may go on.
func TestP5MomentsAroundNewYear(t *testing.T) {
	for _, z := range goodZones() {
		for year := 3; year <= 3998; year++ {
			n := dayOf(date{year, 1, 1}) * 86400
			for _, minutes := range []int{0, z.Offset, z.Offset + z.Saving} {
				for second := -1; second <= 1; second++ {
					checkMoment(t, z, n-60*minutes+second)
				}
			}
		}
	}
}

// P5: the options of a local time are all moments that have it, found by going through all seconds around a change.
func TestP5EverySecondAroundAChange(t *testing.T) {
	zones := slices.Clone(summerZones)
	for k, z := range edgeZones() {
		if k%9 == 0 {
			zones = append(zones, z)
		}
	}
	for k, z := range zones {
		year := 2000 + k
		for _, c := range changesByHand(z, year) {
			found := map[int][]int{}
			// These are all moments that can have one of the local times below.
			for n := c.at - 180*z.Saving - 10; n <= c.at+180*z.Saving+10; n++ {
				local := impl.LocalOf(z, n)
				found[local] = append(found[local], n)
			}
			first, behind := edgesOf(z, c)
			for local := first - 60*z.Saving - 5; local <= behind+60*z.Saving+5; local++ {
				options := found[local]
				if len(options) == 0 {
					checkAnswers(t, z, local, nil, c.at, c.at)
				} else {
					checkAnswers(t, z, local, options, options[0], options[len(options)-1])
				}
			}
		}
	}
}

// checkTime checks what P6 says of a local time.
func checkTime(t *testing.T, z impl.Zone, local int) {
	t.Helper()
	first, last := impl.CommonOf(z, local, false), impl.CommonOf(z, local, true)
	if first > last {
		t.Fatalf("the first moment of %d in %v is %d, the last one %d", local, z, first, last)
	}
	leftOut := impl.TimeKind(z, local) == 0
	if leftOut && first != last {
		t.Fatalf("%d is left out in %v, but has the moments %d and %d", local, z, first, last)
	}
	for _, n := range []int{first, last} {
		later := impl.LocalOf(z, n) - local
		if leftOut && (later <= 0 || later > 60*z.Saving) || !leftOut && later != 0 {
			t.Fatalf("CommonOf(%v, %d) = %d is %d seconds later in the zone", z, local, n, later)
		}
	}
	if local+60 <= lastLocal {
		if next := impl.CommonOf(z, local+60, false); next < first {
			t.Fatalf("CommonOf(%v, %d) = %d, but %d a minute later", z, local, first, next)
		}
	}
}

// P6 around both changes of years of all kinds.
func TestP6TimesAroundChanges(t *testing.T) {
	for _, z := range summerZones {
		for year := firstZoneYear; year <= lastZoneYear; year += 5 {
			for _, c := range changesByHand(z, year) {
				for _, local := range localsAround(z, c) {
					checkTime(t, z, local)
				}
			}
		}
	}
}

// P6 for times of every day of two years, and for times all over the years.
func TestP6TimesBetweenChanges(t *testing.T) {
	from := dayOf(date{2023, 12, 30}) * 86400
	for _, z := range goodZones() {
		for minute := 0; minute < 735*1440; minute += 61 {
			checkTime(t, z, from+60*minute+minute%60)
		}
		for local := firstLocal; local <= lastLocal; local += 7000003 {
			checkTime(t, z, local)
		}
		checkTime(t, z, lastLocal)
	}
}

// P6: a time that is left out has the moment at which summer starts, whether it is the first or the last one; the seconds around are next to it.
func TestP6TimesLeftOutAreTheStart(t *testing.T) {
	for _, z := range append(edgeZones(), summerZones...) {
		for _, year := range []int{3, 4, 400, 1900, 2000, 2020, 2023, 2024, 2025, 2026, 2027, 2100, 3997, 3998} {
			start := momentByHand(z.Start, year) - 60*z.Offset
			first := momentByHand(z.Start, year)
			behind := first + 60*z.Saving
			for _, k := range [][2]int{
				{first - 60, start - 60}, {first - 1, start - 1}, {first, start}, {first + 1, start}, {first + 30*z.Saving, start},
				{behind - 60, start}, {behind - 1, start}, {behind, start}, {behind + 1, start + 1}, {behind + 60, start + 60},
			} {
				for _, later := range []bool{false, true} {
					if got := impl.CommonOf(z, k[0], later); got != k[1] {
						t.Fatalf("CommonOf(%v, %d, %v) = %d, want %d", z, k[0], later, got, k[1])
					}
				}
			}
		}
	}
}

// P6: the first moment of a time that comes twice is still in summer, and the last one is behind it.
func TestP6TimesThatComeTwice(t *testing.T) {
	for _, z := range append(edgeZones(), summerZones...) {
		for _, year := range []int{3, 4, 400, 1900, 2000, 2020, 2023, 2024, 2025, 2026, 2027, 2100, 3997, 3998} {
			end := momentByHand(z.End, year) - 60*z.Offset - 60*z.Saving
			behind := momentByHand(z.End, year)
			first := behind - 60*z.Saving
			for _, k := range [][3]int{
				{first - 1, end - 60*z.Saving - 1, end - 60*z.Saving - 1}, {first, end - 60*z.Saving, end}, {first + 1, end - 60*z.Saving + 1, end + 1},
				{behind - 1, end - 1, end + 60*z.Saving - 1}, {behind, end + 60*z.Saving, end + 60*z.Saving}, {behind + 1, end + 60*z.Saving + 1, end + 60*z.Saving + 1},
			} {
				if early, late := impl.CommonOf(z, k[0], false), impl.CommonOf(z, k[0], true); early != k[1] || late != k[2] {
					t.Fatalf("CommonOf(%v, %d) is %d and %d, want %d and %d", z, k[0], early, late, k[1], k[2])
				}
			}
		}
	}
}

// P6 for zones that people live in.
func TestP6KnownTimes(t *testing.T) {
	for _, k := range []struct {
		zone        impl.Zone
		local       impl.Stamp
		first, last impl.Stamp
		kind        int
	}{
		{berlin, stampOn(date{2026, 3, 29}, 1, 59, 59), stampOn(date{2026, 3, 29}, 0, 59, 59), stampOn(date{2026, 3, 29}, 0, 59, 59), 1},
		{berlin, stampOn(date{2026, 3, 29}, 2, 0, 0), stampOn(date{2026, 3, 29}, 1, 0, 0), stampOn(date{2026, 3, 29}, 1, 0, 0), 0},
		{berlin, stampOn(date{2026, 3, 29}, 2, 59, 59), stampOn(date{2026, 3, 29}, 1, 0, 0), stampOn(date{2026, 3, 29}, 1, 0, 0), 0},
		{berlin, stampOn(date{2026, 3, 29}, 3, 0, 0), stampOn(date{2026, 3, 29}, 1, 0, 0), stampOn(date{2026, 3, 29}, 1, 0, 0), 1},
		{berlin, stampOn(date{2026, 10, 25}, 1, 59, 59), stampOn(date{2026, 10, 24}, 23, 59, 59), stampOn(date{2026, 10, 24}, 23, 59, 59), 1},
		{berlin, stampOn(date{2026, 10, 25}, 2, 0, 0), stampOn(date{2026, 10, 25}, 0, 0, 0), stampOn(date{2026, 10, 25}, 1, 0, 0), 2},
		{berlin, stampOn(date{2026, 10, 25}, 2, 59, 59), stampOn(date{2026, 10, 25}, 0, 59, 59), stampOn(date{2026, 10, 25}, 1, 59, 59), 2},
		{berlin, stampOn(date{2026, 10, 25}, 3, 0, 0), stampOn(date{2026, 10, 25}, 2, 0, 0), stampOn(date{2026, 10, 25}, 2, 0, 0), 1},
		{newYork, stampOn(date{2026, 3, 8}, 2, 30, 0), stampOn(date{2026, 3, 8}, 7, 0, 0), stampOn(date{2026, 3, 8}, 7, 0, 0), 0},
		{newYork, stampOn(date{2026, 11, 1}, 1, 30, 0), stampOn(date{2026, 11, 1}, 5, 30, 0), stampOn(date{2026, 11, 1}, 6, 30, 0), 2},
		{sydney, stampOn(date{2026, 10, 4}, 2, 0, 0), stampOn(date{2026, 10, 3}, 16, 0, 0), stampOn(date{2026, 10, 3}, 16, 0, 0), 0},
		{sydney, stampOn(date{2026, 4, 5}, 2, 0, 0), stampOn(date{2026, 4, 4}, 15, 0, 0), stampOn(date{2026, 4, 4}, 16, 0, 0), 2},
		{sydney, stampOn(date{2027, 1, 1}, 0, 0, 0), stampOn(date{2026, 12, 31}, 13, 0, 0), stampOn(date{2026, 12, 31}, 13, 0, 0), 1},
		{lordHowe, stampOn(date{2026, 10, 4}, 2, 29, 59), stampOn(date{2026, 10, 3}, 15, 30, 0), stampOn(date{2026, 10, 3}, 15, 30, 0), 0},
		{lordHowe, stampOn(date{2026, 4, 5}, 1, 30, 0), stampOn(date{2026, 4, 4}, 14, 30, 0), stampOn(date{2026, 4, 4}, 15, 0, 0), 2},
		{chatham, stampOn(date{2026, 4, 5}, 3, 44, 59), stampOn(date{2026, 4, 4}, 13, 59, 59), stampOn(date{2026, 4, 4}, 14, 59, 59), 2},
	} {
		local := impl.MomentOf(k.local)
		first, last := impl.StampOf(impl.CommonOf(k.zone, local, false)), impl.StampOf(impl.CommonOf(k.zone, local, true))
		if kind := impl.TimeKind(k.zone, local); first != k.first || last != k.last || kind != k.kind {
			t.Errorf("%v in %v is of kind %d, at %v and %v", k.local, k.zone, kind, first, last)
		}
	}
}

// P36: LocalOf each option is the local time; they ascend, by Saving; and there are at most two.
func TestP36OptionsLeadBack(t *testing.T) {
	check := func(z impl.Zone, local int) {
		options := impl.CommonOptions(z, local)
		if len(options) > 2 || len(options) == 2 && options[1]-options[0] != 60*z.Saving {
			t.Fatalf("CommonOptions(%v, %d) = %v", z, local, options)
		}
		for k, n := range options {
			if impl.LocalOf(z, n) != local || k > 0 && n <= options[k-1] {
				t.Fatalf("CommonOptions(%v, %d) = %v", z, local, options)
			}
		}
	}
	for _, z := range summerZones {
		for year := firstZoneYear; year <= lastZoneYear; year += 3 {
			for _, c := range changesByHand(z, year) {
				for _, local := range localsAround(z, c) {
					check(z, local)
				}
			}
		}
	}
	for _, z := range append(edgeZones(), plainZones...) {
		for local := firstLocal; local <= lastLocal; local += 20000003 {
			check(z, local)
		}
		check(z, lastLocal)
	}
}

// P36: the options are the moments that are found by hand, around all changes and between them.
func TestP36OptionsByHand(t *testing.T) {
	for _, z := range goodZones() {
		changes := allChangesByHand(z)
		for local := firstLocal; local <= lastLocal; local += 9000011 {
			checkLocal(t, z, changes, local)
		}
	}
	for _, z := range edgeZones() {
		var changes []handChange
		for year := 2019; year <= 2035; year++ {
			changes = append(changes, changesByHand(z, year)...)
		}
		for _, c := range changes[2:] {
			for _, local := range localsAround(z, c) {
				checkLocal(t, z, changes, local)
			}
		}
	}
}

// P36: every call returns new memory, also where there is one moment.
func TestP36OptionsAreNew(t *testing.T) {
	for _, k := range []struct {
		zone  impl.Zone
		local int
	}{{berlin, impl.MomentOf(stampOn(date{2026, 10, 25}, 2, 30, 0))}, {berlin, impl.MomentOf(stampOn(date{2026, 7, 1}, 0, 0, 0))}, {impl.Zone{}, firstLocal}} {
		first := impl.CommonOptions(k.zone, k.local)
		want := slices.Clone(first)
		second := impl.CommonOptions(k.zone, k.local)
		first[0] = -1
		first = append(first[:1], 7, 8, 9)
		if third := impl.CommonOptions(k.zone, k.local); !slices.Equal(second, want) || !slices.Equal(third, want) || len(first) != 4 {
			t.Fatal(first, second, third)
		}
	}
}

// P37: the start of summer leaves Saving minutes out, from the first to the last second, and its end repeats as many; all other times come once.
func TestP37KindsAroundChanges(t *testing.T) {
	check := func(z impl.Zone, year int) {
		for _, c := range changesByHand(z, year) {
			kind, first := 0, momentByHand(z.Start, year)
			if !c.toSummer {
				kind, first = 2, momentByHand(z.End, year)-60*z.Saving
			}
			behind := first + 60*z.Saving
			for _, k := range [][2]int{
				{first - 86400, 1}, {first - 60, 1}, {first - 1, 1}, {first, kind}, {first + 1, kind}, {first + 30*z.Saving, kind},
				{behind - 60, kind}, {behind - 1, kind}, {behind, 1}, {behind + 1, 1}, {behind + 60, 1}, {behind + 86400, 1},
			} {
				if got := impl.TimeKind(z, k[0]); got != k[1] {
					t.Fatalf("TimeKind(%v, %d) = %d, want %d", z, k[0], got, k[1])
				}
				if got := impl.CommonOptions(z, k[0]); len(got) != k[1] {
					t.Fatalf("CommonOptions(%v, %d) = %v", z, k[0], got)
				}
			}
		}
	}
	for _, z := range summerZones {
		for year := firstZoneYear; year <= lastZoneYear; year++ {
			check(z, year)
		}
	}
	for _, z := range edgeZones() {
		for year := 2015; year <= 2050; year++ {
			check(z, year)
		}
	}
}

// P37: in a year as many minutes are left out as come twice, and these are Saving.
func TestP37MinutesOfAYear(t *testing.T) {
	for k, z := range []impl.Zone{berlin, chatham, summerZones[6], summerZones[7], summerZones[8]} {
		from := dayOf(date{1996 + k, 1, 1}) * 1440
		var kinds [3]int
		for minute := from; minute < from+365*1440; minute++ {
			kind := impl.TimeKind(z, 60*minute+minute%60)
			if kind < 0 || kind > 2 {
				t.Fatalf("TimeKind(%v, %d) = %d", z, 60*minute+minute%60, kind)
			}
			kinds[kind]++
		}
		if kinds[0] != z.Saving || kinds[2] != z.Saving {
			t.Fatalf("%v has the kinds %v in %d", z, kinds, 1996+k)
		}
	}
}

// P37: without Saving every time comes once, and less the offset it is in common time.
func TestP37TimesWithoutSaving(t *testing.T) {
	for offset := impl.MinOffset; offset <= impl.MaxOffset; offset++ {
		z := impl.Zone{Offset: offset}
		for local := firstLocal; local <= lastLocal; local += (lastLocal - firstLocal) / 120 {
			n := local - 60*offset
			checkAnswers(t, z, local, []int{n}, n, n)
		}
		checkAnswers(t, z, lastLocal, []int{lastLocal - 60*offset}, lastLocal-60*offset, lastLocal-60*offset)
	}
}

// P37 for the first and the last moments that are allowed, and those outside, which are of no kind.
func TestP37TimesOutOfRange(t *testing.T) {
	far := append([]int{0, 1, 86400, firstZoneMoment, firstLocal - 86400, lastZoneMoment, lastLocal + 86400, lastMoment - 1, lastMoment, 1<<40 + firstLocal, math.MinInt, math.MaxInt}, badMoments...)
	for _, z := range append(goodZones(), edgeZones()...) {
		for _, local := range far {
			refuseLocal(t, z, local)
		}
		for second := 0; second <= 2; second++ {
			for _, local := range []int{firstLocal + second, lastLocal - second} {
				options := optionsByHand(z, changesNear(z, local), local)
				if len(options) != 1 {
					t.Fatalf("%d comes %d times in %v", local, len(options), z)
				}
				checkAnswers(t, z, local, options, options[0], options[0])
			}
			refuseLocal(t, z, firstLocal-1-second)
			refuseLocal(t, z, lastLocal+1+second)
		}
	}
}

// P37: changes may leave out or repeat the first and the last moments that are allowed.
func TestP37ChangesAtTheEndsOfTheRange(t *testing.T) {
	first, last := dateOf(firstLocal/86400), dateOf(lastLocal/86400)
	if (first != date{2, 2, 6}) || (last != date{3999, 11, 26}) {
		t.Fatal(first, last)
	}
	early := impl.Rule{Month: 2, Week: 1, Weekday: impl.WeekdayOf(firstLocal / 86400)}
	late := impl.Rule{Month: 11, Week: 4, Weekday: impl.WeekdayOf(lastLocal / 86400)}
	for _, offset := range []int{impl.MinOffset, 0, impl.MaxOffset} {
		for _, saving := range []int{1, 60, impl.MaxSaving} {
			for minute := 0; minute <= saving; minute++ {
				begin, end := early, late
				begin.Minute, end.Minute = minute, 1439-minute
				for _, z := range []impl.Zone{{Offset: offset, Saving: saving, Start: begin, End: end}, {Offset: offset, Saving: saving, Start: end, End: begin}} {
					for second := 0; second <= 60*saving; second += 30 {
						checkLocal(t, z, changesNear(z, firstLocal), firstLocal+second)
						checkLocal(t, z, changesNear(z, lastLocal), lastLocal-second)
					}
				}
			}
		}
	}
}

// P37: the first moment that is allowed, and the last one, left out or twice.
func TestP37EndsLeftOutOrTwice(t *testing.T) {
	early := impl.Rule{Month: 2, Week: 1, Weekday: impl.WeekdayOf(firstLocal / 86400)}
	late := impl.Rule{Month: 11, Week: 4, Weekday: impl.WeekdayOf(lastLocal / 86400), Minute: 1439}
	starts := impl.Zone{Offset: 60, Saving: 60, Start: early, End: sunday(10, 5, 180)}
	checkAnswers(t, starts, firstLocal, nil, firstLocal-3600, firstLocal-3600)
	checkAnswers(t, starts, firstLocal+3600, []int{firstLocal - 3600}, firstLocal-3600, firstLocal-3600)
	ends := impl.Zone{Offset: 60, Saving: 60, Start: sunday(10, 5, 120), End: early}
	ends.End.Minute = 60
	checkAnswers(t, ends, firstLocal, []int{firstLocal - 7200, firstLocal - 3600}, firstLocal-7200, firstLocal-3600)
	starts = impl.Zone{Offset: 60, Saving: 60, Start: late, End: sunday(3, 5, 180)}
	checkAnswers(t, starts, lastLocal, nil, lastLocal-59-3600, lastLocal-59-3600)
	checkAnswers(t, starts, lastLocal-60, []int{lastLocal - 60 - 3600}, lastLocal-60-3600, lastLocal-60-3600)
	ends = impl.Zone{Offset: 60, Saving: 60, Start: sunday(3, 5, 120), End: late}
	checkAnswers(t, ends, lastLocal-60, []int{lastLocal - 60 - 7200, lastLocal - 60 - 3600}, lastLocal-60-7200, lastLocal-60-3600)
	checkAnswers(t, ends, lastLocal, []int{lastLocal - 3600}, lastLocal-3600, lastLocal-3600)
}

// P37 for zones that are invalid.
func TestP37InvalidZones(t *testing.T) {
	for _, z := range badZones() {
		for _, local := range []int{-1, 0, firstLocal - 1, firstLocal, 63910347600 - 1800, 63928493400, lastLocal, lastLocal + 1} {
			refuseLocal(t, z, local)
		}
	}
}
