package tests

import (
	"math"
	"slices"
	"strconv"
	"strings"
	"testing"

	"loop.example/g00508/impl"
)

// allStrings returns every string of at most size bytes, each taken from alphabet.
func allStrings(alphabet string, size int) []string {
	all := []string{""}
	last := all
	for range size {
		var next []string
		for _, s := range last {
			for i := range len(alphabet) {
				next = append(next, s+alphabet[i:i+1])
			}
		}
		all = append(all, next...)
		last = next
	}
	return all
}

func TestFormatInt(t *testing.T) {
	cases := []struct {
		n    int
		want string
	}{
		{0, "0"}, {7, "7"}, {-5, "-5"}, {10, "10"}, {-10, "-10"}, {-70, "-70"}, {1000, "1000"},
		{999999, "999999"}, {1000000, "1000000"},
		{999999999999, "999999999999"}, {-999999999999, "-999999999999"},
		{1000000000000, "1000000000000"}, {-1000000000000, "-1000000000000"},
		{math.MaxInt32 + 1, "2147483648"}, {math.MinInt32 - 1, "-2147483649"},
		{math.MaxInt, "9223372036854775807"}, {math.MinInt, "-9223372036854775808"},
		{math.MaxInt - 1, "9223372036854775806"}, {math.MinInt + 1, "-9223372036854775807"},
	}
	for _, c := range cases {
		if got := impl.FormatInt(c.n); got != c.want {
			t.Errorf("FormatInt(%d) = %q, want %q", c.n, got, c.want)
		}
	}
}

func TestParseNumberInvertsFormatInt(t *testing.T) {
	for n := 0; n <= 999999; n++ {
		if got, ok := impl.ParseNumber(impl.FormatInt(n)); !ok || got != n {
			t.Fatalf("ParseNumber(FormatInt(%d)) = %d, %v", n, got, ok)
		}
	}
}

func TestParseIntInvertsFormatInt(t *testing.T) {
	check := func(n int) {
		if got, ok := impl.ParseInt(impl.FormatInt(n)); !ok || got != n {
			t.Fatalf("ParseInt(FormatInt(%d)) = %d, %v", n, got, ok)
		}
	}
	for n := -2000; n <= 2000; n++ {
		check(n)
	}
	for power := 1; power <= 100000000000; power *= 10 {
		for _, n := range []int{power - 1, power, power + 1, 9 * power} {
			check(n)
			check(-n)
		}
	}
	for n := -999999999999; n <= 999999999999; n += 123456789 {
		check(n)
	}
	check(999999999999)
	check(-999999999999)
}

func TestParseLimits(t *testing.T) {
	for _, s := range []string{"1000000", "1000001", "-1", "-999999", "999999999999", "4294967297"} {
		if n, ok := impl.ParseNumber(s); ok || n != 0 {
			t.Errorf("ParseNumber(%q) = %d, %v, want 0, false", s, n, ok)
		}
	}
	for _, c := range []struct {
		s string
		n int
	}{{"0", 0}, {"1", 1}, {"999998", 999998}, {"999999", 999999}} {
		if n, ok := impl.ParseNumber(c.s); !ok || n != c.n {
			t.Errorf("ParseNumber(%q) = %d, %v, want %d, true", c.s, n, ok, c.n)
		}
	}
	for _, s := range []string{"1000000000000", "-1000000000000", "1000000000001", "-1000000000001"} {
		if n, ok := impl.ParseInt(s); ok || n != 0 {
			t.Errorf("ParseInt(%q) = %d, %v, want 0, false", s, n, ok)
		}
	}
	for _, c := range []struct {
		s string
		n int
	}{
		{"0", 0}, {"-1", -1}, {"1000000", 1000000}, {"-1000000", -1000000},
		{"999999999998", 999999999998}, {"-999999999998", -999999999998},
		{"999999999999", 999999999999}, {"-999999999999", -999999999999},
	} {
		if n, ok := impl.ParseInt(c.s); !ok || n != c.n {
			t.Errorf("ParseInt(%q) = %d, %v, want %d, true", c.s, n, ok, c.n)
		}
	}
}

func TestParseRejectsMalformedIntegers(t *testing.T) {
	for _, s := range []string{
		"", "-", "+", "--", "+-", "-0", "+0", "+5", "--1", "-+1", "1-", "1+", "1-1",
		"00", "01", "007", "-00", "-01", "-007", "000000", "0000001",
		" ", " 1", "1 ", "- 1", "1 2", "\n1", "1\n", "\t1", "1\r", "\x001", "1\x00",
		"a", "1a", "a1", "0x1", "0b1", "0o7", "1e3", "1.0", "1.", ".1", "1,000", "1_000", "_1", "1_",
		"/", ":", "1/", "1:", "'1", "*1", "<", "=", "?", "nan", "inf",
		"\x80", "1\x80", "\xff1", "\uff11", "\u0661", "\u22121", "\xb1", "1\xb1",
	} {
		rejectInteger(t, s)
	}
}

func TestParseRejectsStringsTooLong(t *testing.T) {
	for _, s := range []string{
		"9223372036854775807", "9223372036854775808", "-9223372036854775808", "-9223372036854775809",
		// These wrap around to 0, 1 and 7 in 64 bits.
		"18446744073709551616", "18446744073709551617", "-18446744073709551609", "18446744073709551623",
		"340282366920938463463374607431768211457",
		strings.Repeat("9", 1000), "-" + strings.Repeat("9", 1000), "1" + strings.Repeat("0", 64),
		strings.Repeat("0", 1000), strings.Repeat("0", 1000) + "1", "-" + strings.Repeat("0", 1000) + "1",
		strings.Repeat("-", 1000), strings.Repeat("1", 100000),
	} {
		rejectInteger(t, s)
	}
}

func rejectInteger(t *testing.T, s string) {
	t.Helper()
	if n, ok := impl.ParseNumber(s); ok || n != 0 {
		t.Errorf("ParseNumber(%q) = %d, %v, want 0, false", s, n, ok)
	}
	if n, ok := impl.ParseInt(s); ok || n != 0 {
		t.Errorf("ParseInt(%q) = %d, %v, want 0, false", s, n, ok)
	}
}

// Among the short strings, exactly those that FormatInt returns are accepted.
func TestParseAcceptsOnlyFormattedIntegers(t *testing.T) {
	formatted := map[string]int{}
	for n := -9999; n <= 99999; n++ {
		formatted[strconv.Itoa(n)] = n
	}
	for _, s := range allStrings("-+0127 a", 5) {
		want, isFormatted := formatted[s]
		if n, ok := impl.ParseInt(s); ok != isFormatted || n != want {
			t.Fatalf("ParseInt(%q) = %d, %v, want %d, %v", s, n, ok, want, isFormatted)
		}
		if want < 0 {
			want, isFormatted = 0, false
		}
		if n, ok := impl.ParseNumber(s); ok != isFormatted || n != want {
			t.Fatalf("ParseNumber(%q) = %d, %v, want %d, %v", s, n, ok, want, isFormatted)
		}
	}
}

// Every single byte, alone and after a digit, so that none but the digits is taken for one.
func TestParseRejectsOtherBytes(t *testing.T) {
	for b := range 256 {
		if b >= '0' && b <= '9' {
			continue
		}
		one := string([]byte{byte(b)})
		rejectInteger(t, one)
		rejectInteger(t, "1"+one)
		rejectInteger(t, "1"+one+"1")
	}
}

func TestSplitByte(t *testing.T) {
	cases := []struct {
		s    string
		by   byte
		want []string
	}{
		{"", ',', []string{""}}, {"", 0, []string{""}}, {"a", ',', []string{"a"}}, {"abc", ',', []string{"abc"}},
		{",", ',', []string{"", ""}}, {",,", ',', []string{"", "", ""}},
		{",a", ',', []string{"", "a"}}, {"a,", ',', []string{"a", ""}}, {",a,", ',', []string{"", "a", ""}},
		{"a,b", ',', []string{"a", "b"}}, {"a,,b", ',', []string{"a", "", "b"}},
		{"one\ntwo\n", '\n', []string{"one", "two", ""}}, {" a  b", ' ', []string{"", "a", "", "b"}},
		{"a\x00b", 0, []string{"a", "b"}}, {"aaa", 'a', []string{"", "", "", ""}},
		{"a\xffb", 0xff, []string{"a", "b"}}, {"\x80", 0x80, []string{"", ""}},
		// A byte is split off even inside the encoding of a rune, and is not taken for the rune of its number.
		{"\u00e9", 0xc3, []string{"", "\xa9"}}, {"\u00e9", 0xe9, []string{"\u00e9"}}, {"a\u00e9b", 0xa9, []string{"a\xc3", "b"}},
	}
	for _, c := range cases {
		if got := impl.SplitByte(c.s, c.by); !slices.Equal(got, c.want) {
			t.Errorf("SplitByte(%q, %q) = %q, want %q", c.s, c.by, got, c.want)
		}
	}
}

func TestJoin(t *testing.T) {
	cases := []struct {
		list []string
		by   string
		want string
	}{
		{nil, ",", ""}, {[]string{}, ",", ""}, {[]string{""}, ",", ""}, {[]string{"a"}, ",", "a"},
		{[]string{"", ""}, ",", ","}, {[]string{"", "a", ""}, ",", ",a,"}, {[]string{"a", "b"}, "-", "a-b"},
		{[]string{"a", "b", "c"}, "", "abc"}, {[]string{"", "", ""}, "", ""}, {nil, "", ""},
		{[]string{"a", "b", "c"}, ", ", "a, b, c"}, {[]string{"a,b", "c"}, ",", "a,b,c"},
		{[]string{"\xff", "\x80", "\x00"}, "\xfe", "\xff\xfe\x80\xfe\x00"},
	}
	for _, c := range cases {
		if got := impl.Join(c.list, c.by); got != c.want {
			t.Errorf("Join(%q, %q) = %q, want %q", c.list, c.by, got, c.want)
		}
	}
}

func TestJoinInvertsSplitByte(t *testing.T) {
	alphabet := ",a\x00\x80\xff"
	for _, s := range allStrings(alphabet, 5) {
		for i := range len(alphabet) {
			checkSplit(t, s, alphabet[i])
		}
	}
	for b := range 256 {
		by := byte(b)
		one := string([]byte{by})
		for _, s := range []string{"", "a", one, one + one, "a" + one + "b", one + "a" + one, string(rune(b)), "x" + string(rune(b))} {
			checkSplit(t, s, by)
		}
	}
	checkSplit(t, strings.Repeat("ab,", 10000), ',')
}

func checkSplit(t *testing.T, s string, by byte) {
	t.Helper()
	list := impl.SplitByte(s, by)
	one := string([]byte{by})
	if got := impl.Join(list, one); got != s {
		t.Errorf("Join(SplitByte(%q, %q)) = %q", s, by, got)
	}
	if len(list) != strings.Count(s, one)+1 {
		t.Errorf("SplitByte(%q, %q) has %d elements", s, by, len(list))
	}
	for _, part := range list {
		if strings.IndexByte(part, by) >= 0 {
			t.Errorf("SplitByte(%q, %q) has the element %q", s, by, part)
		}
	}
}

func TestJoinLeavesItsArgument(t *testing.T) {
	whole := []string{"a", "b", "spare", "spare"}
	if got := impl.Join(whole[:2], ","); got != "a,b" {
		t.Errorf("Join = %q", got)
	}
	if !slices.Equal(whole, []string{"a", "b", "spare", "spare"}) {
		t.Errorf("Join changed its argument to %q", whole)
	}
}

func TestSplitByteReturnsNewMemory(t *testing.T) {
	first := impl.SplitByte("a,b", ',')
	second := impl.SplitByte("a,b", ',')
	for i := range first[:cap(first)] {
		first[:cap(first)][i] = "changed"
	}
	if !slices.Equal(second, []string{"a", "b"}) || !slices.Equal(impl.SplitByte("a,b", ','), []string{"a", "b"}) {
		t.Error("two results of SplitByte share memory")
	}
}
