package loam_test

import (
	"math"
	"slices"
	"strconv"
	"strings"
	"testing"

	"loam/api"
	"loam/loam"
)

func TestThirdExample(t *testing.T) {
	s := example(t)
	for _, c := range []struct {
		query string
		at    int
		want  []api.Sample
	}{
		{`count({app="web"}[10]) by zone`, 9, []api.Sample{{Key: "a", Bits: 1073741824}, {Key: "b", Bits: 1065353216}}},
		{`rate({app="web"}[3])`, 5, []api.Sample{{Bits: 1059760811}}},
		{`mean({app!="x"}[10])`, 9, []api.Sample{{Bits: 1082130432}}},
	} {
		if got, e, place := s.Measure(c.query, c.at); e != api.OK || place != 0 || !slices.Equal(got, c.want) {
			t.Errorf("P6: Measure(%q, %d) = %v, %d, %d, want %v", c.query, c.at, got, e, place, c.want)
		}
	}
}

func TestOrdinaryMeasures(t *testing.T) {
	s := example(t)
	measured(t, s, `count(`+all+`[10])`, 9, value{"", 4})
	measured(t, s, `rate(`+all+`[10])`, 9, value{"", 0.4})
	measured(t, s, `bytes(`+all+`[10])`, 9, value{"", 15})
	measured(t, s, `mean(`+all+`[10])`, 9, value{"", 4})
	measured(t, s, `count(`+all+`[10]) by app`, 9, value{"db", 1}, value{"web", 3})
	measured(t, s, `rate(`+all+`[8]) by app`, 9, value{"db", 0.125}, value{"web", 0.375})
	measured(t, s, `bytes(`+all+`[10]) by app`, 9, value{"db", 2}, value{"web", 13})
	measured(t, s, `mean(`+all+`[10]) by app`, 9, value{"db", -4}, value{"web", 12})
	measured(t, s, `count({app="web",zone!="a"}[10])`, 9, value{"", 1})
	measured(t, s, ` bytes ( { app = "web" } |= "1" != "put" [ 10 ] ) by zone `, 9, value{"a", 2})
	measured(t, s, `mean({app="web"}|="2"[10])`, 9, value{"", 12})
	measured(t, s, `count({app="x"}[10])`, 9)
	measured(t, s, `count({app="x"}[10]) by app`, 9)
	measured(t, s, `bytes(`+all+`!=""[10])`, 9)
	measured(t, loam.New(), `count(`+all+`[1000000])`, 9)
}

// The span leaves its first end out, and takes its last one in.
func TestEndsOfASpan(t *testing.T) {
	s := example(t)
	measured(t, s, `count(`+all+`[6])`, 9, value{"", 3})
	measured(t, s, `count(`+all+`[7])`, 9, value{"", 4})
	measured(t, s, `count(`+all+`[1])`, 9, value{"", 1})
	measured(t, s, `count(`+all+`[1])`, 8)
	measured(t, s, `count(`+all+`[1])`, 10)
	measured(t, s, `count(`+all+`[2])`, 10, value{"", 1})
	measured(t, s, `count(`+all+`[2])`, 5, value{"", 2})
	measured(t, s, `count(`+all+`[3])`, 5, value{"", 3})
	measured(t, s, `count(`+all+`[3])`, 4, value{"", 1})
	measured(t, s, `count(`+all+`[2])`, 2)
	measured(t, s, `count(`+all+`[1000000])`, 8, value{"", 3})
	for _, kind := range []string{"rate", "bytes", "mean"} {
		measured(t, s, kind+`({app="db"}[1])`, 2)
		measured(t, s, kind+`({app="db"}[1])`, 4)
		if got, _, _ := s.Measure(kind+`({app="db"}[1])`, 3); len(got) != 1 {
			t.Errorf("P6: %s at the time of a line = %v", kind, got)
		}
	}
}

func TestSpansAtTheEdgesOfTime(t *testing.T) {
	s := loam.New()
	push(t, s, "a=b", 0, "first", api.OK)
	push(t, s, "a=b", api.MaxTime, "last", api.OK)
	measured(t, s, `bytes(`+all+`[1])`, 0, value{"", 5})
	measured(t, s, `bytes(`+all+`[1000000])`, 0, value{"", 5})
	measured(t, s, `bytes(`+all+`[999999])`, 999999)
	measured(t, s, `bytes(`+all+`[1000000])`, 999999, value{"", 5})
	measured(t, s, `bytes(`+all+`[1])`, api.MaxTime, value{"", 4})
	measured(t, s, `bytes(`+all+`[0001000000])`, api.MaxTime, value{"", 4})
}

// The noughts ahead of a span do not matter, for the lines or for a rate.
func TestNoughtsAheadOfASpan(t *testing.T) {
	s := example(t)
	for _, span := range []string{"8", "08", "00000000000000000000000008", strings.Repeat("0", 170) + "8"} {
		measured(t, s, `rate(`+all+`[`+span+`])`, 9, value{"", 0.5})
	}
}

func TestGroupsByALabel(t *testing.T) {
	s := loam.New()
	for i, labels := range []string{"b=x", "a=b,b=10", "b=9,z=b", "aa=b,b=x", "a=9", "ab=9"} {
		push(t, s, labels, 1, strings.Repeat("1", i+1), api.OK)
	}
	measured(t, s, `bytes(`+all+`[1]) by b`, 1, value{"", 11}, value{"10", 2}, value{"9", 3}, value{"x", 5})
	measured(t, s, `count(`+all+`[1]) by a`, 1, value{"", 4}, value{"9", 1}, value{"b", 1})
	measured(t, s, `count(`+all+`[1]) by aa`, 1, value{"", 5}, value{"b", 1})
	measured(t, s, `count(`+all+`[1]) by z`, 1, value{"", 5}, value{"b", 1})
	measured(t, s, `count(`+all+`[1]) by x`, 1, value{"", 6})
	measured(t, s, `count(`+all+`[1]) by by`, 1, value{"", 6})
	measured(t, s, `rate(`+all+`[2]) by b`, 1, value{"", 1}, value{"10", 0.5}, value{"9", 0.5}, value{"x", 1})
	measured(t, s, `mean(`+all+`[1]) by b`, 1, value{"", (11111 + 111111) / 2}, value{"10", 11}, value{"9", 111}, value{"x", 556})
	measured(t, s, `count({b="x"}[1]) by b`, 1, value{"x", 2})
	measured(t, s, `count({b!="x"}[1]) by b`, 1, value{"", 2}, value{"10", 1}, value{"9", 1})
}

// A label's value makes a group only where a line of its streams is measured.
func TestGroupsWithoutLines(t *testing.T) {
	s := loam.New()
	push(t, s, "a=1", 1, "x", api.OK)
	push(t, s, "a=2", 2, "7", api.OK)
	push(t, s, "a=3", 3, "y", api.OK)
	push(t, s, "b=1", 4, "z", api.OK)
	measured(t, s, `count(`+all+`[2]) by a`, 3, value{"2", 1}, value{"3", 1})
	measured(t, s, `count(`+all+`!="y"[3]) by a`, 4, value{"", 1}, value{"2", 1})
	measured(t, s, `mean(`+all+`[9]) by a`, 4, value{"2", 7})
	measured(t, s, `mean(`+all+`[9]) by b`, 4, value{"", 7})
	drop(t, s, 3, 2, api.OK)
	measured(t, s, `count(`+all+`[9]) by a`, 4, value{"", 1}, value{"3", 1})
	measured(t, s, `mean(`+all+`[9]) by a`, 4)
	measured(t, s, `mean(`+all+`[9])`, 4)
}

func TestMeansAreOfNumbersAlone(t *testing.T) {
	s := loam.New()
	for _, line := range []string{"0000007", "", "-", "--1", "+1", "1.5", " 1", "1 ", "1e3", "0x1", "1_0", "1,0", "-1234567", "1-", "1/", "1:", "7\n", "\x007", "١", "７"} {
		push(t, s, "a=b", 1, line, api.OK)
	}
	measured(t, s, `mean(`+all+`[1])`, 1)
	measured(t, s, `count(`+all+`[1])`, 1, value{"", 20})
	push(t, s, "a=b", 1, "007", api.OK)
	measured(t, s, `mean(`+all+`[1])`, 1, value{"", 7})
	push(t, s, "a=b", 1, "-0", api.OK)
	measured(t, s, `mean(`+all+`[1])`, 1, value{"", 3.5})
	push(t, s, "a=b", 1, "-000001", api.OK)
	measured(t, s, `mean(`+all+`[1])`, 1, value{"", 2})
	push(t, s, "a=b", 1, "999998", api.OK)
	measured(t, s, `mean(`+all+`[1])`, 1, value{"", 250001})
	measured(t, s, `count(`+all+`[1])`, 1, value{"", 24})
	measured(t, s, `mean(`+all+`|="0"[1])`, 1, value{"", 2})
}

// A sample whose value is 0 has no sign.
func TestSamplesOfNought(t *testing.T) {
	for _, lines := range [][]string{{"0"}, {"-0"}, {"-000000", "-0"}, {"5", "-5"}, {"-5", "5", "x"}, {"999999", "-999998", "-1"}} {
		s := loam.New()
		for _, line := range lines {
			push(t, s, "a=b", 1, line, api.OK)
		}
		for _, by := range []string{"", " by z"} {
			got, e, _ := s.Measure(`mean(`+all+`[1])`+by, 1)
			if e != api.OK || !slices.Equal(got, []api.Sample{{Key: "", Bits: 0}}) {
				t.Errorf("P6: mean of %q = %v, %d, want the bits 0", lines, got, e)
			}
		}
	}
	s := filled(t, six[:2], 1)
	push(t, s, "e=f", 1, "", api.OK)
	push(t, s, "e=f", 1, "", api.OK)
	measured(t, s, `bytes({e="f"}[1])`, 1, value{"", 0})
	measured(t, s, `bytes(`+all+`[1]) by e`, 1, value{"", 2}, value{"f", 0})
	measured(t, s, `count({e="f"}[1])`, 1, value{"", 2})
}

// bitsOf asks for a measure that comes to one sample without a key.
func bitsOf(t *testing.T, s *loam.Store, query string, at int) int {
	t.Helper()
	got, e, place := s.Measure(query, at)
	if e != api.OK || place != 0 || len(got) != 1 || got[0].Key != "" {
		t.Fatalf("P6: Measure(%q, %d) = %v, %d, %d, want one sample", query, at, got, e, place)
	}
	return got[0].Bits
}

// numbers: a store with a line for each of these numbers, all at time 1.
func numbers(t *testing.T, list ...int) *loam.Store {
	t.Helper()
	s := loam.New()
	for _, n := range list {
		push(t, s, "a=b", 1, strconv.Itoa(n), api.OK)
	}
	return s
}

// copies: the same number, count times.
func copies(n int, count int) []int { return slices.Repeat([]int{n}, count) }

// Quotients that are no floats, by the bits that IEEE 754 gives them.
func TestQuotientsAreRounded(t *testing.T) {
	for _, c := range []struct {
		list []int
		bits int
	}{
		{[]int{1, 0, 0}, 0x3EAAAAAB},        // 1/3, up
		{[]int{-1, 0, 0}, 0xBEAAAAAB},       // and with a sign
		{[]int{2, 0, 0}, 0x3F2AAAAB},        // 2/3, up
		{[]int{5, 0, 0}, 0x3FD55555},        // 5/3, down
		{[]int{1, 0, 0, 0, 0}, 0x3E4CCCCD},  // 1/5, up
		{[]int{3, 0, 0, 0, 0}, 0x3F19999A},  // 3/5, up
		{[]int{-7, 0, 0, 0, 0}, 0xBFB33333}, // -7/5, down
		{[]int{999999, 0}, 0x48F423F0},      // 499999.5, which is a float
		{[]int{999999, 999999, 999999}, 0x497423F0},
	} {
		if bits := bitsOf(t, numbers(t, c.list...), `mean(`+all+`[1])`, 1); bits != c.bits {
			t.Errorf("P6: mean of %v has the bits %#x, want %#x", c.list, bits, c.bits)
		}
	}
	s := numbers(t, copies(1, 7)...)
	for span, want := range map[int]int{1: 0x40E00000, 3: 0x40155555, 7: 0x3F800000, 9: 0x3F471C72, 10: 0x3F333333, 1000000: 0x36EAE18B} {
		if bits := bitsOf(t, s, `rate(`+all+`[`+strconv.Itoa(span)+`])`, 1); bits != want {
			t.Errorf("P6: rate of 7 lines in %d has the bits %#x, want %#x", span, bits, want)
		}
	}
}

// A sum that is no float is rounded ahead of the division, half ways to the
// float whose last bit is 0.
func TestSumsAreRounded(t *testing.T) {
	for _, c := range []struct {
		last    int // beside 16 numbers 999999
		rounded int
	}{
		{777232, 16777216}, {777233, 16777216}, {777234, 16777218}, {777235, 16777220}, {777236, 16777220}, {777237, 16777220},
		{777238, 16777222}, {777239, 16777224}, {999999, 16999984}, {999998, 16999982}, {999997, 16999980},
	} {
		for _, sign := range []int{1, -1} {
			list := append(copies(sign*999999, 16), sign*c.last)
			want := int(math.Float32bits(float32(sign*c.rounded) / 17))
			if bits := bitsOf(t, numbers(t, list...), `mean(`+all+`[1])`, 1); bits != want {
				t.Errorf("P6: mean of 16 times %d and %d has the bits %#x, want %#x", sign*999999, sign*c.last, bits, want)
			}
		}
	}
}

// Numbers all alike of which the mean is another one, since the sum is rounded.
func TestMeanOfOneNumberIsRounded(t *testing.T) {
	s := numbers(t, copies(999999, 17)...)
	measured(t, s, `mean(`+all+`[1])`, 1, value{"", 999999.0625})
	s = numbers(t, copies(-999999, 17)...)
	measured(t, s, `mean(`+all+`[1])`, 1, value{"", -999999.0625})
	s = numbers(t, copies(999999, 16)...)
	measured(t, s, `mean(`+all+`[1])`, 1, value{"", 999999})
}

// A sum is rounded once, as a whole, in whichever order its numbers stand.
func TestSumsAreRoundedOnce(t *testing.T) {
	great := append(copies(999999, 16), 777232) // 2 to the power of 24
	less := []int{-999999, -999999}
	ones := copies(1, 3)
	want := value{"", float32(16777216-2*999999+3) / 22}
	measured(t, numbers(t, slices.Concat(great, ones, less)...), `mean(`+all+`[1])`, 1, want)
	measured(t, numbers(t, slices.Concat(less, ones, great)...), `mean(`+all+`[1])`, 1, want)
	measured(t, numbers(t, slices.Concat(ones, great, less)...), `mean(`+all+`[1])`, 1, want)
	most := append(copies(1, 200), copies(999999, 100)...)
	measured(t, numbers(t, most...), `mean(`+all+`[1])`, 1, value{"", float32(100000100) / 300})
	slices.Reverse(most)
	measured(t, numbers(t, most...), `mean(`+all+`[1])`, 1, value{"", float32(100000100) / 300})
}

// Numbers of several streams are one group's.
func TestGroupsGoAcrossStreams(t *testing.T) {
	s := loam.New()
	for i, labels := range six {
		push(t, s, labels, 5+i, strconv.Itoa(10*i), api.OK)
	}
	measured(t, s, `mean(`+all+`[100])`, 99, value{"", 25})
	measured(t, s, `mean(`+all+`[100]) by a`, 99, value{"", 35}, value{"1", 5})
	measured(t, s, `mean(`+all+`[100]) by b`, 99, value{"", 70.0 / 3}, value{"1", 30}, value{"2", 25})
}

// Bytes are counted, not letters.
func TestBytesOfAnyLines(t *testing.T) {
	s := loam.New()
	push(t, s, "a=b", 1, "é\xff\x00", api.OK)
	measured(t, s, `bytes(`+all+`[1])`, 1, value{"", 4})
	measured(t, s, `bytes(`+all+"|=\"\xff\"[1])", 1, value{"", 4})
	s = loam.New()
	for range api.MaxLines {
		push(t, s, "a=b", 1, strings.Repeat("x", api.MaxLine), api.OK)
	}
	measured(t, s, `bytes(`+all+`[1])`, 1, value{"", 12000})
	measured(t, s, `count(`+all+`[1])`, 1, value{"", 300})
	measured(t, s, `rate(`+all+`[1])`, 1, value{"", 300})
}

// Of a long query nothing is read, of a wrong one the place is told.
func TestTextsOfMeasuresAreChecked(t *testing.T) {
	s := example(t)
	measureRefused(t, s, strings.Repeat("?", api.MaxQuery+1), -1, api.ErrLong, 0)
	measureRefused(t, s, `count({a="b"}[0])`, -1, api.ErrQuery, 14)
	measureRefused(t, s, `count({a="b"}[1]`, 5, api.ErrQuery, 16)
	whole := `count({app="db"}[10])`
	blanks := strings.Repeat(" ", api.MaxQuery-len(whole))
	measured(t, s, whole+blanks, 9, value{"", 1})
	measureRefused(t, s, whole+blanks+" ", 9, api.ErrLong, 0)
	for text, place := range map[string]int{
		`sum({a="b"}[1])`: 0, `Count({a="b"}[1])`: 0, `counts({a="b"}[1])`: 0, `count {a="b"}[1]`: 6, `count()`: 6, `count({a="b"})`: 13, `count({a="b"}[])`: 14,
		`count({a="b"}[-1])`: 14, `count({a="b"}["1"])`: 14, `count({a="b"}[00])`: 14, `count({a="b"}[99999999999999999999])`: 14, `count({a="b"}[1.5])`: 15,
		`count({a="b"}[1]|="x")`: 16, `count({a="b"}[1])|="x"`: 17, `count({a="b"}[1]) by`: 20, `count({a="b"}[1]) by abcdefg`: 21, `count({a="b"}[1]) by "a"`: 21,
		`count({a="b"}[1]) by a,b`: 22, `count({a="b"}[1]) by a b`: 23, `count({a="b"}[1]) on a`: 18, `count(count({a="b"}[1])[1])`: 6,
	} {
		measureRefused(t, s, text, 5, api.ErrQuery, place)
	}
}

func TestRowsAreNoMeasures(t *testing.T) {
	s := example(t)
	for _, text := range []string{all, `{app="web"}`, ` { app = "db" } |= "4" `, `{count!="by"}`} {
		measureRefused(t, s, text, 9, api.ErrKind, 0)
	}
}

func TestTimeOfAMeasureIsChecked(t *testing.T) {
	s := example(t)
	for _, at := range []int{-1, api.MaxTime + 1, leastInt, mostInt, leastInt + 1, 1 << 32, -1 << 32} {
		for _, kind := range []string{"count", "rate", "bytes", "mean"} {
			measureRefused(t, s, kind+`(`+all+`[1])`, at, api.ErrRange, 0)
			measureRefused(t, s, kind+`(`+all+`[1000000]) by a`, at, api.ErrRange, 0)
			measureRefused(t, loam.New(), kind+`(`+all+`[1])`, at, api.ErrRange, 0)
		}
	}
}

// Whichever errors apply together, the first of them is told.
func TestFirstErrorOfMeasures(t *testing.T) {
	s := example(t)
	texts := map[string]api.Errno{`count({a="b"}[1])`: api.OK, strings.Repeat("?", 201): api.ErrLong, `{a="b"?`: api.ErrQuery, `mean({`: api.ErrQuery, all: api.ErrKind}
	times := map[int]api.Errno{0: api.OK, api.MaxTime: api.OK, -1: api.ErrRange, api.MaxTime + 1: api.ErrRange}
	for text, textError := range texts {
		for at, timeError := range times {
			want := firstError(textError, timeError)
			place := 0
			if want == api.ErrQuery {
				place = 6
			}
			measureRefused(t, s, text, at, want, place)
		}
	}
}

func TestMeasuresOfLinesThatAreGone(t *testing.T) {
	s := example(t)
	drop(t, s, 5, 1, api.OK)
	measured(t, s, `count(`+all+`[10]) by app`, 9, value{"web", 3})
	measured(t, s, `mean(`+all+`[10])`, 9, value{"", 12})
	push(t, s, "app=db", 3, "8", api.OK)
	push(t, s, "app=db", 2, "8", api.ErrOrder)
	measured(t, s, `mean(`+all+`[10]) by app`, 9, value{"db", 8}, value{"web", 12})
	drop(t, s, api.MaxTime, 4, api.OK)
	measured(t, s, `count(`+all+`[1000000])`, 9)
}

func TestListsOfSamplesAreNewMemory(t *testing.T) {
	s := example(t)
	query := `count(` + all + `[10]) by app`
	first, _, _ := s.Measure(query, 9)
	second, _, _ := s.Measure(query, 9)
	first = first[:cap(first)]
	for i := range first {
		first[i] = api.Sample{Key: "mine", Bits: -1}
	}
	for _, sample := range second {
		if sample.Bits < 0 {
			t.Error("P2: two lists share memory")
		}
	}
	measured(t, s, query, 9, value{"db", 1}, value{"web", 3})
	drop(t, s, 100, 4, api.OK)
	if want := []api.Sample{{Key: "db", Bits: 0x3F800000}, {Key: "web", Bits: 0x40400000}}; !slices.Equal(second, want) {
		t.Errorf("P2: samples that had come out are now %v", second)
	}
}

// A call of Measure changes nothing, whether it is refused or not.
func TestMeasuresChangeNothing(t *testing.T) {
	s := example(t)
	for _, text := range []string{all, "mean({", `count(` + all + `[9])`, `mean(` + all + `[9]) by app`, `rate({new="x"}[9]) by new`, strings.Repeat("x", 201)} {
		for _, at := range []int{-1, 0, 9, api.MaxTime, api.MaxTime + 1} {
			s.Measure(text, at)
			bothWays(t, s, all, 0, 100, neg, get, put, num)
			measured(t, s, `bytes(`+all+`[10]) by zone`, 9, value{"", 2}, value{"a", 7}, value{"b", 6})
		}
	}
	streams(t, s, "app=db", "app=web,zone=a", "app=web,zone=b")
	push(t, s, "app=db", 2, "x", api.ErrOrder)
	drop(t, s, 100, 4, api.OK)
}

func TestStoresHaveTheirOwnMeasures(t *testing.T) {
	a, b := example(t), numbers(t, 1, 2)
	measured(t, a, `mean(`+all+`[10])`, 9, value{"", 4})
	measured(t, b, `mean(`+all+`[10])`, 9, value{"", 1.5})
	measured(t, a, `count(`+all+`[10]) by app`, 9, value{"db", 1}, value{"web", 3})
}
