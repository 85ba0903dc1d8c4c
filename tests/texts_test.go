package tests

import (
	"fmt"
	"iter"
	"regexp"
	"strconv"
	"strings"
	"testing"

	"loop.example/clockdaemon/impl"
)

const (
	firstOffset = -720
	lastOffset  = 840 + 120
)

var knownStampTexts = []struct {
	stamp impl.Stamp
	text  string
}{
	{stampOn(date{1, 1, 1}, 0, 0, 0), "0001-01-01T00:00:00"},
	{stampOn(date{1, 1, 1}, 0, 0, 1), "0001-01-01T00:00:01"},
	{stampOn(date{1, 1, 1}, 0, 0, 59), "0001-01-01T00:00:59"},
	{stampOn(date{1, 1, 1}, 0, 59, 0), "0001-01-01T00:59:00"},
	{stampOn(date{1, 1, 1}, 23, 0, 0), "0001-01-01T23:00:00"},
	{stampOn(date{1, 12, 31}, 23, 59, 59), "0001-12-31T23:59:59"},
	{stampOn(date{4, 2, 29}, 1, 2, 3), "0004-02-29T01:02:03"},
	{stampOn(date{99, 9, 9}, 9, 9, 9), "0099-09-09T09:09:09"},
	{stampOn(date{100, 10, 10}, 10, 10, 10), "0100-10-10T10:10:10"},
	{stampOn(date{999, 12, 31}, 23, 59, 59), "0999-12-31T23:59:59"},
	{stampOn(date{1000, 1, 1}, 0, 0, 0), "1000-01-01T00:00:00"},
	{stampOn(date{2000, 2, 29}, 12, 30, 15), "2000-02-29T12:30:15"},
	{stampOn(date{2024, 2, 29}, 23, 59, 59), "2024-02-29T23:59:59"},
	{stampOn(date{2026, 11, 16}, 17, 34, 11), "2026-11-16T17:34:11"},
	{stampOn(date{4000, 2, 29}, 0, 0, 0), "4000-02-29T00:00:00"},
	{stampOn(date{4000, 12, 31}, 23, 59, 59), "4000-12-31T23:59:59"},
}

var knownOffsetTexts = []struct {
	minutes int
	text    string
}{
	{0, "Z"}, {1, "+00:01"}, {-1, "-00:01"}, {9, "+00:09"}, {10, "+00:10"}, {-10, "-00:10"},
	{30, "+00:30"}, {-30, "-00:30"}, {59, "+00:59"}, {-59, "-00:59"},
	{60, "+01:00"}, {-60, "-01:00"}, {61, "+01:01"}, {-61, "-01:01"}, {90, "+01:30"}, {-90, "-01:30"},
	{210, "+03:30"}, {-210, "-03:30"}, {345, "+05:45"}, {-345, "-05:45"}, {-480, "-08:00"}, {570, "+09:30"}, {-570, "-09:30"},
	{599, "+09:59"}, {-599, "-09:59"}, {600, "+10:00"}, {-600, "-10:00"}, {-690, "-11:30"}, {-719, "-11:59"}, {-720, "-12:00"},
	{720, "+12:00"}, {765, "+12:45"}, {840, "+14:00"}, {841, "+14:01"}, {930, "+15:30"}, {959, "+15:59"}, {960, "+16:00"},
}

// stampParts finds the digits of a text; whether there is such a date and time is seen from the numbers.
var stampParts = regexp.MustCompile(`\A([0-9]{4})-([0-9]{2})-([0-9]{2})T([0-9]{2}):([0-9]{2}):([0-9]{2})\z`)

// stampByHand reads a text without the program.
func stampByHand(text string) (impl.Stamp, bool) {
	parts := stampParts.FindStringSubmatch(text)
	if parts == nil {
		return impl.Stamp{}, false
	}
	var n [6]int
	for i := range n {
		n[i], _ = strconv.Atoi(parts[i+1])
	}
	year, month, day := n[0], n[1], n[2]
	if year < 1 || year > 4000 || month < 1 || month > 12 || day < 1 || day > monthByHand(year, month) {
		return impl.Stamp{}, false
	}
	if n[3] > 23 || n[4] > 59 || n[5] > 59 {
		return impl.Stamp{}, false
	}
	return stampOn(date{year, month, day}, n[3], n[4], n[5]), true
}

func stampTextByHand(s impl.Stamp) string {
	return fmt.Sprintf("%04d-%02d-%02dT%02d:%02d:%02d", s.Year, s.Month, s.Day, s.Hour, s.Minute, s.Second)
}

// offsetsByHand counts the hours and minutes of all offsets, and tells the number of each text.
func offsetsByHand() map[string]int {
	all := map[string]int{"Z": 0}
	hour, minute := 0, 0
	for n := 1; n <= lastOffset; n++ {
		minute++
		if minute == 60 {
			hour, minute = hour+1, 0
		}
		text := fmt.Sprintf("%02d:%02d", hour, minute)
		all["+"+text] = n
		if -n >= firstOffset {
			all["-"+text] = -n
		}
	}
	return all
}

// withOtherByte yields a text with each of its bytes replaced by each other one.
func withOtherByte(text string) iter.Seq[string] {
	return func(yield func(string) bool) {
		for i := range len(text) {
			for b := range 256 {
				if byte(b) != text[i] && !yield(text[:i]+string([]byte{byte(b)})+text[i+1:]) {
					return
				}
			}
		}
	}
}

// withByteMore yields a text with each byte put into each place, also ahead of it and behind it.
func withByteMore(text string) iter.Seq[string] {
	return func(yield func(string) bool) {
		for i := range len(text) + 1 {
			for b := range 256 {
				if !yield(text[:i] + string([]byte{byte(b)}) + text[i:]) {
					return
				}
			}
		}
	}
}

// withLess yields a text without each of its bytes, and all of its beginnings and ends but the text itself.
func withLess(text string) iter.Seq[string] {
	return func(yield func(string) bool) {
		for i := range len(text) {
			for _, less := range []string{text[:i] + text[i+1:], text[:i], text[i+1:]} {
				if !yield(less) {
					return
				}
			}
		}
	}
}

// strangeParts yields a text with two bytes after each other, from each place on, replaced by those that other readers of numbers accept, or that are not ASCII.
func strangeParts(text string) iter.Seq[string] {
	parts := []string{
		"+1", "-1", "+0", "-0", " 1", "1 ", "\t1", "1\n", "_1", "1_", ".1", "1.", "1e", "0x", "x1", "aa", "AF", "::", "--", "TT", "ZZ", "//", "\x00\x00", "\x001", "1\x00",
		"\u0661", "\u00b2", "\u00e9", "\xff\xff", "\xb1\xb1", "\xc0\xb1", "\x80\x80",
	}
	return func(yield func(string) bool) {
		for i := range len(text) - 1 {
			for _, part := range parts {
				if !yield(text[:i] + part + text[i+2:]) {
					return
				}
			}
		}
	}
}

// textsOver yields all texts of at most so many of the bytes.
func textsOver(bytes string, most int) iter.Seq[string] {
	return func(yield func(string) bool) {
		list := []string{""}
		for len(list) > 0 {
			text := list[len(list)-1]
			list = list[:len(list)-1]
			if !yield(text) {
				return
			}
			if len(text) == most {
				continue
			}
			for i := range len(bytes) {
				list = append(list, text+bytes[i:i+1])
			}
		}
	}
}

func allBytes() string {
	var list []byte
	for b := range 256 {
		list = append(list, byte(b))
	}
	return string(list)
}

// checkStampText checks the text of a valid stamp, and that it can be read.
func checkStampText(t *testing.T, s impl.Stamp, want string) {
	t.Helper()
	text := impl.StampText(s)
	if text != want || len(text) != 19 {
		t.Fatalf("StampText(%v) = %q, want %q", s, text, want)
	}
	if got, ok := impl.ReadStamp(text); !ok || got != s {
		t.Fatalf("ReadStamp(%q) = %v, %v, want %v", text, got, ok, s)
	}
}

// checkReadStamp compares what is read with what is read by hand, and an accepted text with that of its stamp.
func checkReadStamp(t *testing.T, text string) {
	t.Helper()
	want, wantOK := stampByHand(text)
	got, ok := impl.ReadStamp(text)
	if got != want || ok != wantOK {
		t.Fatalf("ReadStamp(%q) = %v, %v, want %v, %v", text, got, ok, want, wantOK)
	}
	if back := impl.StampText(got); ok && back != text {
		t.Fatalf("StampText(%v) = %q, but %q is accepted", got, back, text)
	}
}

func refuseStampText(t *testing.T, text string) {
	t.Helper()
	if got, ok := impl.ReadStamp(text); ok || got != (impl.Stamp{}) {
		t.Fatalf("ReadStamp(%q) = %v, %v, want the zero value and false", text, got, ok)
	}
}

// checkReadOffset does the same as checkReadStamp with the texts of offsets.
func checkReadOffset(t *testing.T, all map[string]int, text string) {
	t.Helper()
	want, wantOK := all[text]
	got, ok := impl.ReadOffset(text)
	if got != want || ok != wantOK {
		t.Fatalf("ReadOffset(%q) = %d, %v, want %d, %v", text, got, ok, want, wantOK)
	}
	if back := impl.OffsetText(got); ok && back != text {
		t.Fatalf("OffsetText(%d) = %q, but %q is accepted", got, back, text)
	}
}

func refuseOffsetText(t *testing.T, text string) {
	t.Helper()
	if got, ok := impl.ReadOffset(text); ok || got != 0 {
		t.Fatalf("ReadOffset(%q) = %d, %v, want 0 and false", text, got, ok)
	}
}

func TestP38KnownTextsOfStamps(t *testing.T) {
	for _, known := range knownStampTexts {
		checkStampText(t, known.stamp, known.text)
	}
}

func TestP38TextsOfEveryDay(t *testing.T) {
	n := 0
	for d := (date{1, 1, 1}); d.year <= 4000; d = d.next() {
		times := []impl.Stamp{stampOn(d, n%24, n%60, n/7%60)}
		if d.day == 1 || d.next().day == 1 {
			times = append(times, stampOn(d, 0, 0, 0), stampOn(d, 23, 59, 59))
		}
		for _, s := range times {
			checkStampText(t, s, stampTextByHand(s))
		}
		n++
	}
	if n != 1460970 {
		t.Fatal(n)
	}
}

func TestP38TextsOfEverySecondOfADay(t *testing.T) {
	s := stampOn(date{2024, 2, 29}, 0, 0, 0)
	for s.Day == 29 {
		checkStampText(t, s, stampTextByHand(s))
		s = secondLater(s)
	}
}

func TestP38NoTextsOfInvalidStamps(t *testing.T) {
	for _, s := range badStamps() {
		if text := impl.StampText(s); text != "" {
			t.Errorf("StampText(%v) = %q, want no text", s, text)
		}
	}
	// These have as many digits as the text has places, or fit into them when they are cut.
	for _, s := range []impl.Stamp{
		stampOn(date{0, 1, 1}, 0, 0, 0), stampOn(date{4001, 1, 1}, 0, 0, 0), stampOn(date{9999, 12, 31}, 23, 59, 59), stampOn(date{12026, 11, 16}, 0, 0, 0), stampOn(date{-1, 1, 1}, 0, 0, 0),
		stampOn(date{2026, 0, 1}, 0, 0, 0), stampOn(date{2026, 13, 1}, 0, 0, 0), stampOn(date{2026, 101, 1}, 0, 0, 0), stampOn(date{2026, 1, 0}, 0, 0, 0), stampOn(date{2026, 1, 32}, 0, 0, 0), stampOn(date{2026, 1, 101}, 0, 0, 0),
		stampOn(date{2026, 2, 29}, 0, 0, 0), stampOn(date{2100, 2, 29}, 0, 0, 0), stampOn(date{2026, 6, 31}, 0, 0, 0),
		stampOn(date{2026, 1, 1}, 24, 0, 0), stampOn(date{2026, 1, 1}, 100, 0, 0), stampOn(date{2026, 1, 1}, 0, 60, 0), stampOn(date{2026, 1, 1}, 0, 100, 0), stampOn(date{2026, 1, 1}, 0, 0, 60), stampOn(date{2026, 1, 1}, 0, 0, 100),
		stampOn(date{2026, 1, 1}, -1, 0, 0), stampOn(date{2026, 1, 1}, 0, -1, 0), stampOn(date{2026, 1, 1}, 0, 0, -1),
	} {
		if text := impl.StampText(s); text != "" {
			t.Errorf("StampText(%v) = %q, want no text", s, text)
		}
	}
}

func TestP39NumbersOfStampTexts(t *testing.T) {
	for year := range 10000 {
		checkReadStamp(t, fmt.Sprintf("%04d-01-01T00:00:00", year))
		checkReadStamp(t, fmt.Sprintf("%04d-02-29T23:59:59", year))
	}
	for month := range 100 {
		for day := range 100 {
			for _, year := range []int{0, 1, 4, 1900, 2000, 2024, 2026, 4000, 4001, 9999} {
				checkReadStamp(t, fmt.Sprintf("%04d-%02d-%02dT17:34:11", year, month, day))
			}
		}
	}
	for i := range 100 {
		for j := range 100 {
			checkReadStamp(t, fmt.Sprintf("2026-11-16T%02d:%02d:00", i, j))
			checkReadStamp(t, fmt.Sprintf("2024-02-29T%02d:59:%02d", i, j))
			checkReadStamp(t, fmt.Sprintf("4000-12-31T23:%02d:%02d", i, j))
		}
	}
}

func TestP39OtherBytesInStampTexts(t *testing.T) {
	for _, known := range knownStampTexts {
		for text := range withOtherByte(known.text) {
			checkReadStamp(t, text)
		}
		for text := range strangeParts(known.text) {
			checkReadStamp(t, text)
		}
	}
}

func TestP39StampTextsWithAByteMoreOrLess(t *testing.T) {
	for _, known := range knownStampTexts {
		for text := range withByteMore(known.text) {
			refuseStampText(t, text)
		}
		for text := range withLess(known.text) {
			refuseStampText(t, text)
		}
		refuseStampText(t, known.text+known.text)
	}
}

func TestP39TextsThatAreNoStamps(t *testing.T) {
	for _, text := range []string{
		"", "T", "0", "2026", "2026-11-16", "17:34:11", "T17:34:11", "2026-11-16T17:34", "2026-11-16T17:34:11Z", "2026-11-16T17:34:11+00:00", "2026-11-16T17:34:11.0",
		"2026-11-16 17:34:11", "2026-11-16t17:34:11", "2026/11/16T17:34:11", "2026-11-16T17-34-11", "2026:11:16T17:34:11", "2026-11-16T17.34.11", "20261116T173411", "0000-00-00T00:00:00",
		"+026-11-16T17:34:11", "-026-11-16T17:34:11", " 026-11-16T17:34:11", "0x1A-11-16T17:34:11", "2_26-11-16T17:34:11", "12026-1-16T17:34:11", "2026-1-016T17:34:11", "2026-11-16T7:034:11",
		"16-11-2026T17:34:11", "17:34:11T2026-11-16", "2026-11-16T17:34:60", "2026-11-16T24:00:00", "2026-02-29T00:00:00", "1900-02-29T00:00:00", "2026-00-16T17:34:11", "2026-11-00T17:34:11", "2026-11-31T17:34:11",
		strings.Repeat("0", 19), strings.Repeat("\x00", 19), strings.Repeat("-", 19), strings.Repeat("\xb0", 19), strings.Repeat(" ", 19), strings.Repeat("2026-11-16T17:34:11", 1000), strings.Repeat("0", 1<<20),
	} {
		refuseStampText(t, text)
	}
	// These have 19 bytes, too, but fewer characters.
	for _, text := range []string{
		"\u066226-11-16T17:34:11", "\u0662\u0660-11-16T17:34:11", "\uff126-11-16T17:34:11", "\U0001d7d0-11-16T17:34:11", "2026-11-16T17:34:\u0661", "2026-11-\u0661T17:34:11",
		"2026\u2010-16T17:34:11", "2026-11-16T17\uff1a:11", "2026-11-16\uff34:34:11", "\xff\xff\xff\xff-11-16T17:34:11", "\xb2\xb0\xb2\xb6-11-16T17:34:11",
	} {
		if len(text) != 19 {
			t.Fatal(text, len(text))
		}
		refuseStampText(t, text)
	}
	for text := range textsOver(allBytes(), 2) {
		refuseStampText(t, text)
	}
	for n := range 64 {
		if n != 19 {
			refuseStampText(t, strings.Repeat("2026-11-16T17:34:11", 4)[:n])
		}
	}
}

func TestP40KnownTextsOfOffsets(t *testing.T) {
	for _, known := range knownOffsetTexts {
		if text := impl.OffsetText(known.minutes); text != known.text {
			t.Errorf("OffsetText(%d) = %q, want %q", known.minutes, text, known.text)
		}
		if n, ok := impl.ReadOffset(known.text); !ok || n != known.minutes {
			t.Errorf("ReadOffset(%q) = %d, %v, want %d", known.text, n, ok, known.minutes)
		}
	}
}

func TestP40TextsOfAllOffsets(t *testing.T) {
	all := offsetsByHand()
	if len(all) != lastOffset-firstOffset+1 {
		t.Fatal(len(all))
	}
	for text, n := range all {
		if got := impl.OffsetText(n); got != text {
			t.Errorf("OffsetText(%d) = %q, want %q", n, got, text)
		}
		if got, ok := impl.ReadOffset(text); !ok || got != n {
			t.Errorf("ReadOffset(%q) = %d, %v, want %d", text, got, ok, n)
		}
	}
}

func TestP40TextsOfOffsetsOfZones(t *testing.T) {
	for _, z := range append(goodZones(), edgeZones()...) {
		for _, n := range []int{firstLocal, lastLocal, 63930447251} {
			offset := impl.OffsetAt(z, n)
			if got, ok := impl.ReadOffset(impl.OffsetText(offset)); !ok || got != offset {
				t.Fatalf("ReadOffset of the text of %d = %d, %v", offset, got, ok)
			}
		}
	}
}

func TestP40NoTextsOfOtherNumbers(t *testing.T) {
	refuse := func(n int) {
		if text := impl.OffsetText(n); text != "" {
			t.Fatalf("OffsetText(%d) = %q, want no text", n, text)
		}
	}
	for n := range 100000 {
		refuse(firstOffset - 1 - n)
		refuse(lastOffset + 1 + n)
	}
	for _, n := range farNumbers {
		if n < firstOffset || n > lastOffset {
			refuse(n)
		}
	}
	for shift := 11; shift < 63; shift++ {
		refuse(1 << shift)
		refuse(1<<shift + 60)
		refuse(-1 << shift)
		refuse(-1<<shift - 60)
	}
}

func TestP41NumbersOfOffsetTexts(t *testing.T) {
	all := offsetsByHand()
	for hour := range 100 {
		for minute := range 100 {
			text := fmt.Sprintf("%02d:%02d", hour, minute)
			for _, sign := range []string{"+", "-", " ", "0", "Z", "", "\u2212", "--", "+-"} {
				checkReadOffset(t, all, sign+text)
			}
		}
	}
}

func TestP41OtherBytesInOffsetTexts(t *testing.T) {
	all := offsetsByHand()
	for known := range all {
		for text := range withOtherByte(known) {
			checkReadOffset(t, all, text)
		}
		for text := range strangeParts(known) {
			checkReadOffset(t, all, text)
		}
	}
}

func TestP41OffsetTextsWithAByteMoreOrLess(t *testing.T) {
	for known := range offsetsByHand() {
		for text := range withByteMore(known) {
			refuseOffsetText(t, text)
		}
		for text := range withLess(known) {
			refuseOffsetText(t, text)
		}
		refuseOffsetText(t, known+known)
	}
}

func TestP41TextsThatAreNoOffsets(t *testing.T) {
	for _, text := range []string{
		"", "z", "Z0", "+Z", "-Z", "Z+", " Z", "Z ", "ZZ", "Z\x00", "UTC", "GMT", "\uff3a", "Z00:00", "0", "+0", "-0", "00:00", "+00:00", "-00:00", "+0:00", "+00:0",
		"+1:00", "+01:0", "+0100", "+01", "01:00", "+01-00", "+01.00", "+01:60", "+00:60", "-00:60", "+00:90", "-00:90", "+15:60", "-11:60", "+16:01", "+16:30", "+17:00", "-12:01", "-12:30", "-13:00", "-16:00", "+99:99", "-99:99",
		"+001:00", "+01:000", "+1:000", "+ 1:00", "+-1:00", "++1:00", "-+1:00", "+0x:10", "+1e:00", "+01:00Z", "Z+01:00", "+01:00:00", "\u221201:00", "+01\uff1a00", "+\u0661:00", "+\u0660:30", "+\xff\xff:00", "\xab01:00", "+01\xba00",
		strings.Repeat("+01:00", 1000), strings.Repeat("Z", 6), strings.Repeat("0", 1<<20),
	} {
		refuseOffsetText(t, text)
	}
}

func TestP41AllShortTexts(t *testing.T) {
	all := offsetsByHand()
	for text := range textsOver(allBytes(), 2) {
		checkReadOffset(t, all, text)
	}
	for text := range textsOver("Z+-01:6", 6) {
		checkReadOffset(t, all, text)
	}
}
