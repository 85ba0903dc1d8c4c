package tests

import (
	"fmt"
	"iter"
	"math"
	"math/rand/v2"
	"regexp"
	"strconv"
	"strings"
	"testing"

	"loop.example/clockdaemon/impl"
)

// field is a field by its least and its greatest number.
type field struct {
	lo, hi int
}

// patternFields are the minutes, hours, days, months and weekdays.
var patternFields = []field{{0, 59}, {0, 23}, {1, 31}, {1, 12}, {0, 6}}

// someFields also have fields of one and of two numbers, and some between numbers with one and with two digits.
var someFields = append([]field{{0, 0}, {7, 7}, {30, 30}, {59, 59}, {0, 1}, {9, 10}, {58, 59}, {5, 9}, {8, 12}, {10, 19}, {1, 59}, {0, 58}, {31, 59}}, patternFields...)

// noFields have lo above hi, or are not in 0..59; some are fields when they are cut to fewer bits.
var noFields = []field{
	{1, 0}, {6, 5}, {59, 58}, {59, 0}, {-1, 0}, {-1, -1}, {-1, 6}, {-1, 59}, {-59, 0}, {-2, -1}, {0, -1}, {0, 60}, {1, 60}, {59, 60}, {60, 59}, {60, 60}, {0, 61}, {0, 62}, {0, 63}, {62, 63}, {63, 63}, {0, 64}, {64, 64}, {64, 70}, {63, 62},
	{0, 1 << 32}, {0, 1<<32 + 6}, {1 << 32, 1<<32 + 6}, {-1 << 32, 6}, {256, 262}, {math.MinInt, 6}, {math.MinInt, math.MinInt}, {math.MinInt, math.MaxInt}, {0, math.MaxInt}, {0, math.MinInt}, {math.MaxInt, math.MaxInt}, {math.MaxInt, math.MinInt}, {math.MaxInt, 0}, {6, math.MinInt},
}

// knownFields are texts that were read without the program; short is the text of the set.
var knownFields = []struct {
	field
	text    string
	numbers []int
	short   string
}{
	{field{0, 6}, "*", []int{0, 1, 2, 3, 4, 5, 6}, "*"},
	{field{0, 6}, "0-6", []int{0, 1, 2, 3, 4, 5, 6}, "*"},
	{field{0, 6}, "0", []int{0}, "0"},
	{field{0, 6}, "6", []int{6}, "6"},
	{field{0, 6}, "1-5", []int{1, 2, 3, 4, 5}, "1-5"},
	{field{0, 6}, "0-5", []int{0, 1, 2, 3, 4, 5}, "0-5"},
	{field{0, 6}, "1-6", []int{1, 2, 3, 4, 5, 6}, "1-6"},
	{field{0, 6}, "2,3", []int{2, 3}, "2-3"},
	{field{0, 6}, "2,4", []int{2, 4}, "2,4"},
	{field{0, 6}, "3-3", []int{3}, "3"},
	{field{0, 6}, "06,5,00", []int{0, 5, 6}, "0,5-6"},
	{field{0, 6}, "6,1,6,1-1", []int{1, 6}, "1,6"},
	{field{0, 6}, "*,3", []int{0, 1, 2, 3, 4, 5, 6}, "*"},
	{field{0, 6}, "*/2", []int{0, 2, 4, 6}, "0,2,4,6"},
	{field{0, 6}, "*/6", []int{0, 6}, "0,6"},
	{field{0, 6}, "*/7", []int{0}, "0"},
	{field{0, 6}, "*/59", []int{0}, "0"},
	{field{0, 6}, "2/1", []int{2, 3, 4, 5, 6}, "2-6"},
	{field{0, 6}, "2/2", []int{2, 4, 6}, "2,4,6"},
	{field{0, 6}, "2-2/2", []int{2}, "2"},
	{field{0, 6}, "6/1", []int{6}, "6"},
	{field{0, 6}, "6/59", []int{6}, "6"},
	{field{0, 6}, "0/01", []int{0, 1, 2, 3, 4, 5, 6}, "*"},
	{field{1, 12}, "*/5", []int{1, 6, 11}, "1,6,11"},
	{field{1, 12}, "*/1", []int{1, 2, 3, 4, 5, 6, 7, 8, 9, 10, 11, 12}, "*"},
	{field{1, 12}, "1,2,3,7,9,10", []int{1, 2, 3, 7, 9, 10}, "1-3,7,9-10"},
	{field{1, 12}, "3-9/3", []int{3, 6, 9}, "3,6,9"},
	{field{1, 12}, "3-11/3", []int{3, 6, 9}, "3,6,9"},
	{field{1, 12}, "3/3", []int{3, 6, 9, 12}, "3,6,9,12"},
	{field{1, 31}, "08-11", []int{8, 9, 10, 11}, "8-11"},
	{field{1, 31}, "31,1", []int{1, 31}, "1,31"},
	{field{0, 59}, "*/15", []int{0, 15, 30, 45}, "0,15,30,45"},
	{field{0, 59}, "20/30,0-10/5", []int{0, 5, 10, 20, 50}, "0,5,10,20,50"},
	{field{0, 59}, "0-59/59", []int{0, 59}, "0,59"},
	{field{0, 59}, "0/59", []int{0, 59}, "0,59"},
	{field{0, 59}, "1/59", []int{1}, "1"},
	{field{0, 59}, "58/1", []int{58, 59}, "58-59"},
	{field{0, 59}, "0-1,3-4,58-59", []int{0, 1, 3, 4, 58, 59}, "0-1,3-4,58-59"},
	{field{0, 0}, "*", []int{0}, "*"},
	{field{0, 0}, "0", []int{0}, "*"},
	{field{0, 0}, "00-0/9", []int{0}, "*"},
	{field{7, 7}, "7", []int{7}, "*"},
	{field{59, 59}, "*/59", []int{59}, "*"},
	{field{9, 10}, "10", []int{10}, "10"},
	{field{9, 10}, "09,10", []int{9, 10}, "*"},
}

// badFieldTexts are refused for every field.
var badFieldTexts = []string{
	"", ",", ",,", "/", "-", "//", "--", "-/", "/-", "*,", ",*", "*,,*", "*, *", "* ,*", " *", "* ", "\t*", "*\n", "**", "*-", "-*", "*-*", "*5", "5*", "?", "L", "MON", "@daily",
	"*/", "*/0", "*/00", "*/60", "*/61", "*/99", "*/000", "*/001", "*/015", "*/100", "*/ 2", "*/2 ", "* /2", "*/+2", "*/-2", "*/*", "*/a", "*/2a", "*/2/2", "*/2/", "*//2", "/2", "/2,*", "*,/2", "*/1-2", "*/1,", "*/,2", "*/2.0", "*/0x", "*/1e", "*/_1",
	"*,60", "*,99", "*,100", "*,000", "*,001", "*,-1", "*,+1", "*,0x1", "*,1e1", "*,1.0", "*, 1", "*,1 ", "*,a", "*,\x00", "*\x00", "*,\xff", "*,\xb1", "*,\u0661", "*,\uff11", "*,\u00b2", "\uff0a", "*\uff0c*", "*\uff0f2", "*\u22152", "*;*", "*:*", "*.*", "*\u2010*",
	"*,60-61", "*,0-60", "*,59-60", "*,60-59", "*,59-58", "*,30-29", "*,10-9", "*,1-0", "*,59-0", "*,60/2", "*,60/1", "*,0-", "*,-0", "*,0--1", "*,1-2-3", "*,1-*", "*,*-1", "*,0-000",
	"2147483648", "4294967296", "4294967297", "18446744073709551616", "18446744073709551617", "*/4294967297", "*/18446744073709551617", "256", "257",
}

// setByHand adds up the powers of 2 of numbers, each counted once.
func setByHand(numbers []int) int {
	sum, power := 0, 1
	for n := range 63 {
		for _, other := range numbers {
			if n == other {
				sum += power
				break
			}
		}
		power *= 2
	}
	return sum
}

// numbersByHand takes the powers of 2 away, the greatest one first.
func numbersByHand(set int) []int {
	var numbers []int
	for n := 62; n >= 0; n-- {
		power := 1
		for range n {
			power *= 2
		}
		if set >= power {
			set -= power
			numbers = append([]int{n}, numbers...)
		}
	}
	return numbers
}

func fieldValidByHand(set int, f field) bool {
	if f.lo < 0 || f.hi > 59 || f.lo > f.hi || set <= 0 {
		return false
	}
	numbers := numbersByHand(set)
	return numbers[0] >= f.lo && numbers[len(numbers)-1] <= f.hi
}

// fieldTextByHand writes all numbers of a valid set, and takes those between two others out of the text.
func fieldTextByHand(set int, f field) string {
	numbers := numbersByHand(set)
	if len(numbers) == f.hi-f.lo+1 {
		return "*"
	}
	has := map[int]bool{}
	for _, n := range numbers {
		has[n] = true
	}
	text := ""
	for _, n := range numbers {
		switch {
		case has[n-1] && has[n+1]:
		case has[n-1]:
			text += "-" + strconv.Itoa(n)
		default:
			text += "," + strconv.Itoa(n)
		}
	}
	return text[1:]
}

// fieldPart finds the numbers of a part; whether they are in order and in the field is seen from them.
var fieldPart = regexp.MustCompile(`\A(\*|([0-9]{1,2})(-([0-9]{1,2}))?)(/([0-9]{1,2}))?\z`)

// partByHand reads a part without the program, number by number.
func partByHand(part string, f field) ([]int, bool) {
	found := fieldPart.FindStringSubmatch(part)
	if found == nil {
		return nil, false
	}
	from, to, step := f.lo, f.hi, 1
	if found[1] != "*" {
		from, _ = strconv.Atoi(found[2])
		if found[4] != "" {
			to, _ = strconv.Atoi(found[4])
		} else if found[6] == "" {
			to = from
		}
	}
	if found[6] != "" {
		step, _ = strconv.Atoi(found[6])
	}
	if from < f.lo || to > f.hi || from > to || step < 1 || step > 59 {
		return nil, false
	}
	var numbers []int
	for n := from; n <= to; n++ {
		if (n-from)%step == 0 {
			numbers = append(numbers, n)
		}
	}
	return numbers, true
}

func fieldByHand(text string, f field) (int, bool) {
	var all []int
	for _, part := range strings.Split(text, ",") {
		numbers, ok := partByHand(part, f)
		if !ok {
			return 0, false
		}
		all = append(all, numbers...)
	}
	return setByHand(all), true
}

// allFields yields all fields there are.
func allFields() iter.Seq[field] {
	return func(yield func(field) bool) {
		for lo := range 60 {
			for hi := lo; hi < 60; hi++ {
				if !yield(field{lo, hi}) {
					return
				}
			}
		}
	}
}

// full returns the set of all numbers of a field.
func (f field) full() int {
	var numbers []int
	for n := f.lo; n <= f.hi; n++ {
		numbers = append(numbers, n)
	}
	return setByHand(numbers)
}

// someSets returns valid sets of a field: all runs, all but each run, and each number with every other one, or drawn with a fixed seed.
func (f field) someSets() []int {
	full := f.full()
	var sets []int
	add := func(set int) {
		if set != 0 {
			sets = append(sets, set)
		}
	}
	for first := f.lo; first <= f.hi; first++ {
		for last := first; last <= f.hi; last++ {
			run := field{first, last}.full()
			add(run)
			add(full - run)
			add(setByHand([]int{first, last}))
		}
	}
	draw := rand.New(rand.NewPCG(uint64(f.lo), uint64(f.hi)))
	for range 200 {
		add(int(draw.Uint64()) & full)
		add(int(draw.Uint64()&draw.Uint64()&draw.Uint64()) & full)
		add(int(draw.Uint64()|draw.Uint64()|draw.Uint64()) & full)
	}
	return sets
}

// badSets returns sets that are not sets of a field: empty, negative, or with a number outside.
func (f field) badSets() []int {
	full := f.full()
	sets := []int{0, -1, -2, math.MinInt, math.MinInt + 1, math.MinInt + full, -full, math.MaxInt}
	for n := range 63 {
		if n < f.lo || n > f.hi {
			sets = append(sets, 1<<n, full+1<<n, 1<<f.lo+1<<n, 1<<f.hi+1<<n)
		}
		sets = append(sets, -1<<n, math.MinInt+1<<n)
	}
	return sets
}

func checkFieldValid(t *testing.T, set int, f field, want bool) {
	t.Helper()
	if got := impl.FieldValid(set, f.lo, f.hi); got != want {
		t.Fatalf("FieldValid(%d, %d, %d) = %v, want %v", set, f.lo, f.hi, got, want)
	}
}

func checkFieldHas(t *testing.T, set, n int, want bool) {
	t.Helper()
	if got := impl.FieldHas(set, n); got != want {
		t.Fatalf("FieldHas(%d, %d) = %v, want %v", set, n, got, want)
	}
}

// checkFieldText checks the text of a valid set, and that it can be read.
func checkFieldText(t *testing.T, set int, f field, want string) {
	t.Helper()
	text := impl.FieldText(set, f.lo, f.hi)
	if text != want {
		t.Fatalf("FieldText(%d, %d, %d) = %q, want %q", set, f.lo, f.hi, text, want)
	}
	if got, ok := impl.ReadField(text, f.lo, f.hi); !ok || got != set {
		t.Fatalf("ReadField(%q, %d, %d) = %d, %v, want %d", text, f.lo, f.hi, got, ok, set)
	}
}

func refuseSet(t *testing.T, set int, f field) {
	t.Helper()
	checkFieldValid(t, set, f, false)
	if text := impl.FieldText(set, f.lo, f.hi); text != "" {
		t.Fatalf("FieldText(%d, %d, %d) = %q, want no text", set, f.lo, f.hi, text)
	}
}

// checkReadField compares what is read with what is read by hand, and reads the text of the set again.
func checkReadField(t *testing.T, text string, f field) {
	t.Helper()
	want, wantOK := fieldByHand(text, f)
	got, ok := impl.ReadField(text, f.lo, f.hi)
	if got != want || ok != wantOK {
		t.Fatalf("ReadField(%q, %d, %d) = %d, %v, want %d, %v", text, f.lo, f.hi, got, ok, want, wantOK)
	}
	if !ok {
		return
	}
	checkFieldValid(t, got, f, true)
	short := impl.FieldText(got, f.lo, f.hi)
	if again, ok := impl.ReadField(short, f.lo, f.hi); !ok || again != got {
		t.Fatalf("ReadField(%q, %d, %d) = %d, %v, want %d as for %q", short, f.lo, f.hi, again, ok, got, text)
	}
}

func refuseFieldText(t *testing.T, text string, f field) {
	t.Helper()
	if got, ok := impl.ReadField(text, f.lo, f.hi); ok || got != 0 {
		t.Fatalf("ReadField(%q, %d, %d) = %d, %v, want 0 and false", text, f.lo, f.hi, got, ok)
	}
}

func TestP42AllSetsOfSmallFields(t *testing.T) {
	for lo := -2; lo < 9; lo++ {
		for hi := -2; hi < 9; hi++ {
			for set := -600; set < 600; set++ {
				f := field{lo, hi}
				checkFieldValid(t, set, f, fieldValidByHand(set, f))
			}
		}
	}
}

func TestP42SetsOfAllFields(t *testing.T) {
	count := 0
	for f := range allFields() {
		count++
		checkFieldValid(t, f.full(), f, true)
		for n := range 63 {
			inside := n >= f.lo && n <= f.hi
			checkFieldValid(t, 1<<n, f, inside)
			checkFieldValid(t, f.full()|1<<n, f, inside)
		}
		for _, set := range f.badSets() {
			checkFieldValid(t, set, f, false)
		}
	}
	if count != 1830 {
		t.Fatal(count)
	}
	for _, f := range someFields {
		for _, set := range f.someSets() {
			checkFieldValid(t, set, f, true)
		}
	}
}

func TestP42NoSetsWithoutField(t *testing.T) {
	for _, f := range noFields {
		for n := range 64 {
			checkFieldValid(t, 1<<n, f, false)
			checkFieldValid(t, 1<<n-1, f, false)
			checkFieldValid(t, -1<<n, f, false)
		}
		checkFieldValid(t, math.MaxInt, f, false)
	}
	for lo := -70; lo <= 130; lo++ {
		for hi := -70; hi <= 130; hi++ {
			if lo < 0 || hi > 59 || lo > hi {
				checkFieldValid(t, 1, field{lo, hi}, false)
				checkFieldValid(t, 1<<(lo&63), field{lo, hi}, false)
				checkFieldValid(t, 1<<(hi&63), field{lo, hi}, false)
			}
		}
	}
}

func TestP43SetsHaveNumbers(t *testing.T) {
	for _, f := range someFields {
		for _, set := range append(f.someSets(), 0) {
			has := map[int]bool{}
			for _, n := range numbersByHand(set) {
				has[n] = true
			}
			for n := range 60 {
				checkFieldHas(t, set, n, has[n])
				checkFieldHas(t, set|1<<n, n, true)
				checkFieldHas(t, set&^(1<<n), n, false)
			}
		}
	}
}

// Numbers above 59 do not belong to any field, even if the sum has their power of 2; the others of the sum are still there.
func TestP43NumbersThatNoSetHas(t *testing.T) {
	outside := append([]int{-1, -2, -59, -60, -63, -64, 60, 61, 62, 63, 64, 65, 100, 123, 124, 128, 256}, farNumbers...)
	for _, set := range []int{0, 1, 2, 1 << 59, field{0, 59}.full(), 1 << 60, 1 << 61, 1 << 62, math.MaxInt} {
		for _, n := range outside {
			checkFieldHas(t, set, n, false)
		}
		for n := range 60 {
			checkFieldHas(t, set, n, set/(1<<n)%2 == 1)
			checkFieldHas(t, set, n+64, false)
			checkFieldHas(t, set, n-64, false)
			checkFieldHas(t, set, n+1<<32, false)
		}
	}
}

func TestP43NegativeSetsHaveNothing(t *testing.T) {
	for n := -1; n < 66; n++ {
		for shift := range 64 {
			checkFieldHas(t, -1<<shift, n, false)
			checkFieldHas(t, math.MinInt|math.MaxInt>>shift, n, false)
		}
	}
}

func TestP44KnownTexts(t *testing.T) {
	for _, known := range knownFields {
		checkFieldText(t, setByHand(known.numbers), known.field, known.short)
	}
}

func TestP44TextsOfAllSetsOfSmallFields(t *testing.T) {
	for _, f := range []field{{0, 0}, {0, 1}, {0, 2}, {0, 6}, {1, 12}, {5, 15}, {8, 11}, {47, 59}} {
		for n := 1; n < 1<<(f.hi-f.lo+1); n++ {
			set := n << f.lo
			checkFieldText(t, set, f, fieldTextByHand(set, f))
		}
	}
}

func TestP44TextsOfSets(t *testing.T) {
	for _, f := range someFields {
		for _, set := range f.someSets() {
			checkFieldText(t, set, f, fieldTextByHand(set, f))
		}
	}
	for f := range allFields() {
		checkFieldText(t, f.full(), f, "*")
		checkFieldText(t, f.full(), field{0, 59}, fieldTextByHand(f.full(), field{0, 59}))
		if f.lo < f.hi {
			checkFieldText(t, 1<<f.lo, f, strconv.Itoa(f.lo))
			checkFieldText(t, 1<<f.hi, f, strconv.Itoa(f.hi))
		}
	}
}

func TestP44NoTextsOfInvalidSets(t *testing.T) {
	for f := range allFields() {
		for _, set := range f.badSets() {
			refuseSet(t, set, f)
		}
	}
	for _, f := range noFields {
		for _, set := range []int{0, 1, 2, 62, 127, 1 << 59, 1 << 60, 1 << 62, field{0, 59}.full(), math.MaxInt, -1, math.MinInt} {
			refuseSet(t, set, f)
		}
	}
}

func TestP45KnownTexts(t *testing.T) {
	for _, known := range knownFields {
		set := setByHand(known.numbers)
		if got, ok := impl.ReadField(known.text, known.lo, known.hi); !ok || got != set {
			t.Errorf("ReadField(%q, %d, %d) = %d, %v, want %d", known.text, known.lo, known.hi, got, ok, set)
		}
		checkReadField(t, known.text, known.field)
	}
}

// Every number of one and of two digits, alone and with every step.
func TestP45NumbersAndSteps(t *testing.T) {
	for _, f := range someFields {
		for step := range 100 {
			checkReadField(t, fmt.Sprintf("*/%d", step), f)
			checkReadField(t, fmt.Sprintf("*/%02d", step), f)
			for n := range 100 {
				checkReadField(t, fmt.Sprintf("%d/%d", n, step), f)
				checkReadField(t, fmt.Sprintf("%02d/%02d", n, step), f)
			}
		}
		for n := range 100 {
			checkReadField(t, fmt.Sprintf("%d", n), f)
			checkReadField(t, fmt.Sprintf("%02d", n), f)
		}
	}
}

func TestP45TwoNumbers(t *testing.T) {
	steps := []string{"", "/0", "/1", "/2", "/05", "/30", "/58", "/59", "/60"}
	for _, f := range someFields {
		for first := range 70 {
			for last := range 70 {
				for _, step := range steps {
					checkReadField(t, fmt.Sprintf("%d-%d%s", first, last, step), f)
				}
				checkReadField(t, fmt.Sprintf("%02d-%02d", first, last), f)
			}
		}
	}
}

func TestP45AllShortTexts(t *testing.T) {
	for text := range textsOver("*/-,0127", 5) {
		for _, f := range []field{{0, 6}, {2, 2}, {0, 59}, {12, 21}} {
			checkReadField(t, text, f)
		}
	}
	for text := range textsOver("*/-,12", 7) {
		checkReadField(t, text, field{1, 12})
	}
	for text := range textsOver(allBytes(), 2) {
		checkReadField(t, text, field{0, 59})
	}
}

func TestP45OtherBytes(t *testing.T) {
	for _, known := range knownFields {
		for _, texts := range []iter.Seq[string]{withOtherByte(known.text), withByteMore(known.text), withLess(known.text), strangeParts(known.text)} {
			for text := range texts {
				checkReadField(t, text, known.field)
			}
		}
	}
}

func TestP45TextsThatAreNoFields(t *testing.T) {
	for _, f := range someFields {
		for _, text := range badFieldTexts {
			refuseFieldText(t, text, f)
			refuseFieldText(t, text+",*", f)
			refuseFieldText(t, "*,"+text, f)
		}
		for _, n := range []int{f.lo - 1, f.hi + 1} {
			for _, text := range []string{"%d", "*,%d", "%d,*", "%d-%d", "%d/1", "%d/59", "%d-%d/2"} {
				refuseFieldText(t, strings.ReplaceAll(text, "%d", strconv.Itoa(n)), f)
			}
		}
		refuseFieldText(t, fmt.Sprintf("%d-%d", f.lo-1, f.hi), f)
		refuseFieldText(t, fmt.Sprintf("%d-%d", f.lo, f.hi+1), f)
		refuseFieldText(t, fmt.Sprintf("%d-%d/1", f.lo, f.hi+1), f)
		refuseFieldText(t, fmt.Sprintf("%03d", f.lo), f)
		refuseFieldText(t, fmt.Sprintf("%d-%03d", f.lo, f.hi), f)
		if f.lo < f.hi {
			refuseFieldText(t, fmt.Sprintf("%d-%d", f.hi, f.lo), f)
			refuseFieldText(t, fmt.Sprintf("%d-%d/1", f.lo+1, f.lo), f)
		}
	}
}

func TestP45LongTexts(t *testing.T) {
	f := field{1, 12}
	for _, text := range []string{strings.Repeat("1,", 100000), strings.Repeat("1", 1<<20), strings.Repeat(",", 1<<20), strings.Repeat("/", 1<<20), strings.Repeat("-", 1<<20), strings.Repeat("*", 1<<20), strings.Repeat("1,", 100000) + "13"} {
		refuseFieldText(t, text, f)
	}
	if set, ok := impl.ReadField(strings.Repeat("1,", 100000)+"12", 1, 12); !ok || set != 2+4096 {
		t.Fatal(set, ok)
	}
}

func TestP45NoTextsWithoutField(t *testing.T) {
	for _, f := range noFields {
		for _, text := range []string{"", "*", "*/2", "0", "1", "6", "59", "60", "63", "64", "0-6", "1-5", "0/2", "1,2", strconv.Itoa(f.lo), strconv.Itoa(f.hi)} {
			refuseFieldText(t, text, f)
		}
	}
}

// P45: both sets are there whatever the two texts are.
func TestP45TwoTextsHaveBothSets(t *testing.T) {
	for _, a := range knownFields {
		for _, b := range knownFields {
			first, firstOK := impl.ReadField(a.text, 0, 59)
			second, secondOK := impl.ReadField(b.text, 0, 59)
			joined := a.text + "," + b.text
			got, ok := impl.ReadField(joined, 0, 59)
			if want := first | second; ok != (firstOK && secondOK) || ok && got != want || !ok && got != 0 {
				t.Fatalf("ReadField(%q) = %d, %v, want %d", joined, got, ok, want)
			}
			checkReadField(t, joined, a.field)
		}
	}
}

func checkJoined(t *testing.T, f field, sets ...int) {
	t.Helper()
	var texts []string
	want := 0
	for _, set := range sets {
		texts = append(texts, impl.FieldText(set, f.lo, f.hi))
		want |= set
	}
	text := strings.Join(texts, ",")
	if got, ok := impl.ReadField(text, f.lo, f.hi); !ok || got != want {
		t.Fatalf("ReadField(%q, %d, %d) = %d, %v, want %d", text, f.lo, f.hi, got, ok, want)
	}
}

func TestP101AllSetsOfSmallFieldsJoin(t *testing.T) {
	for _, f := range []field{{0, 0}, {0, 6}, {1, 7}, {8, 12}, {54, 59}} {
		end := 1 << (f.hi - f.lo + 1)
		for a := 1; a < end; a++ {
			for b := 1; b < end; b++ {
				checkJoined(t, f, a<<f.lo, b<<f.lo)
			}
		}
	}
}

func TestP101SetsJoin(t *testing.T) {
	for _, f := range someFields {
		sets := f.someSets()
		for i, set := range sets {
			checkJoined(t, f, set, sets[len(sets)-1-i])
			checkJoined(t, f, set, sets[i*7%len(sets)])
			checkJoined(t, f, set, set)
			checkJoined(t, f, set, f.full())
			checkJoined(t, f, f.full(), set)
			checkJoined(t, f, 1<<f.hi, set, 1<<f.lo)
		}
	}
}

// An invalid set has the text "", which leaves an empty part.
func TestP101InvalidSetsDoNotJoin(t *testing.T) {
	for _, f := range someFields {
		for _, set := range f.badSets() {
			text := impl.FieldText(f.full(), f.lo, f.hi)
			refuseFieldText(t, text+","+impl.FieldText(set, f.lo, f.hi), f)
			refuseFieldText(t, impl.FieldText(set, f.lo, f.hi)+","+text, f)
		}
	}
}
