package tests

import (
	"math/rand"
	"regexp"
	"slices"
	"strconv"
	"strings"
	"testing"

	"loop.example/g00508/impl"
)

var keywords = []string{"int", "bool", "assoc", "dyn", "if", "let", "case", "new", "method", "pack", "true", "false"}

// nearKeywords returns the keywords and what one step leads to: a byte more, less or changed at any place.
func nearKeywords() []string {
	near := slices.Clone(keywords)
	for _, word := range keywords {
		for i := range len(word) + 1 {
			for b := range 256 {
				one := string([]byte{byte(b)})
				near = append(near, word[:i]+one+word[i:])
				if i < len(word) {
					near = append(near, word[:i]+one+word[i+1:])
				}
			}
			if i < len(word) {
				near = append(near, word[:i]+word[i+1:])
			}
		}
	}
	return near
}

// namePattern is the shape of a name written differently: as a regular expression.
var namePattern = regexp.MustCompile(`\A[a-z][a-z0-9]{0,7}\z`)

// checkName compares both answers about s with the list of the keywords and the pattern.
func checkName(t *testing.T, s string) {
	t.Helper()
	reserved := slices.Contains(keywords, s)
	if got := impl.IsReserved(s); got != reserved {
		t.Errorf("IsReserved(%.40q) = %v", s, got)
	}
	if got, want := impl.IsValidName(s), namePattern.MatchString(s) && !reserved; got != want {
		t.Errorf("IsValidName(%.40q) = %v", s, got)
	}
}

func TestKeywordsAreReservedAndNotNames(t *testing.T) {
	for _, s := range keywords {
		if !impl.IsReserved(s) {
			t.Errorf("IsReserved(%q) = false", s)
		}
		if impl.IsValidName(s) {
			t.Errorf("IsValidName(%q) = true", s)
		}
	}
}

func TestOtherWordsAreNamesAndNotReserved(t *testing.T) {
	for _, s := range []string{
		// Words that begin with a keyword.
		"integer", "int1", "ints", "boolean", "bool2", "assocs", "assoc1", "dyna", "ifs", "if0", "lets", "letter", "cases", "news", "newer",
		"methods", "method9", "packs", "package", "trues", "falses", "intint", "ifif", "truefals",
		// Words that a keyword begins with, or ends with.
		"i", "in", "b", "bo", "boo", "a", "as", "ass", "asso", "d", "dy", "l", "le", "c", "ca", "cas", "n", "ne",
		"m", "me", "met", "meth", "metho", "p", "pa", "pac", "t", "tr", "tru", "f", "fa", "fal", "fals",
		"nt", "ool", "yn", "et", "ase", "ew", "ethod", "ack", "rue", "alse", "ssoc",
		// Words of the language that are no keywords.
		"list", "pair", "data", "trait", "inst", "def", "default", "var", "else", "for", "func", "type", "string", "nil", "self", "v0", "unit",
	} {
		if impl.IsReserved(s) {
			t.Errorf("IsReserved(%q) = true", s)
		}
		if !impl.IsValidName(s) {
			t.Errorf("IsValidName(%q) = false", s)
		}
	}
}

func TestOtherCasesAreNotReserved(t *testing.T) {
	for _, word := range keywords {
		for i := range len(word) {
			checkName(t, word[:i]+strings.ToUpper(word[i:i+1])+word[i+1:])
		}
		for _, s := range []string{strings.ToUpper(word), strings.ToUpper(word[:1]) + word[1:], word + "\n", word + " ", " " + word, "'" + word, "(" + word + ")", word + word} {
			if impl.IsReserved(s) {
				t.Errorf("IsReserved(%q) = true", s)
			}
			checkName(t, s)
		}
	}
}

func TestNamesNearKeywords(t *testing.T) {
	for _, s := range nearKeywords() {
		checkName(t, s)
	}
}

func TestNameLength(t *testing.T) {
	for size := range 40 {
		for _, letter := range []string{"a", "m", "z"} {
			for _, rest := range []string{"a", "z", "0", "9"} {
				s := strings.Repeat(rest, max(0, size-1))
				if size > 0 {
					s = letter + s
				}
				if got, want := impl.IsValidName(s), size >= 1 && size <= 8; got != want {
					t.Errorf("IsValidName(%q) = %v", s, got)
				}
				checkName(t, s)
			}
		}
	}
	checkName(t, strings.Repeat("a", 1000000))
	checkName(t, strings.Repeat("int", 1000000))
}

// Every byte at every place of names of every length, so that just the letters begin one and none but the digits join them later.
func TestNameWithEveryByte(t *testing.T) {
	for b := range 256 {
		one := string([]byte{byte(b)})
		isLetter := b >= 'a' && b <= 'z'
		isDigit := b >= '0' && b <= '9'
		for size := 1; size <= 9; size++ {
			for i := range size {
				s := strings.Repeat("q", i) + one + strings.Repeat("q", size-1-i)
				want := size <= 8 && (isLetter || isDigit && i > 0)
				if got := impl.IsValidName(s); got != want {
					t.Errorf("IsValidName(%q) = %v", s, got)
				}
				checkName(t, s)
			}
		}
	}
}

func TestInvalidNames(t *testing.T) {
	for _, s := range []string{
		"", " ", "\n", "\x00", "1", "0", "1a", "9z", "12", "01234567", "A", "Z", "aB", "Ab", "aZ9", "INT", "Name",
		"-", "'a", "a'", "a-b", "-a", "a-", "a+b", "+", "*", "<", "=", ".", "a.b", "a.", "_", "a_b", "_a", "a b", " a", "a ", "a\n", "\na", "a\x00", "()", "(a)",
		"abcdefghi", "a12345678", "methodsab", "defaults1", "\u00e9", "a\u00e9", "\u00e9a", "\u0430", "\uff41", "a\u0660", "\u0131nt", "a\uff11", "\u00aa", "\ufffd",
		"\x80", "\xff", "a\x80", "a\xff", "\xe1", "a\xe1", "\xb1", "a\xb1", "a\xc3", "\xed\xa0\x80",
	} {
		if impl.IsValidName(s) {
			t.Errorf("IsValidName(%q) = true", s)
		}
		checkName(t, s)
	}
}

func TestNamesOfEveryShortText(t *testing.T) {
	for _, s := range allStrings("afilntz09A-' ", 4) {
		checkName(t, s)
	}
}

// A name has to stand as an atom, too.
func TestValidNamesAreAtoms(t *testing.T) {
	for _, s := range append(nearKeywords(), allStrings("az09A.'_", 4)...) {
		if impl.IsValidName(s) && !impl.IsValidAtom(s) {
			t.Errorf("%q is a valid name and no valid atom", s)
		}
	}
}

// allLists returns every list of at most size elements, each taken from elements.
func allLists(elements []string, size int) [][]string {
	all := [][]string{nil}
	last := all
	for range size {
		var next [][]string
		for _, list := range last {
			for _, s := range elements {
				next = append(next, append(slices.Clone(list), s))
			}
		}
		all = append(all, next...)
		last = next
	}
	return all
}

// pairwiseDistinct is the definition: no two elements are equal.
func pairwiseDistinct(list []string) bool {
	for i := range list {
		for j := range i {
			if list[i] == list[j] {
				return false
			}
		}
	}
	return true
}

func TestAllDistinct(t *testing.T) {
	for _, list := range [][]string{
		nil, {}, {""}, {"a"}, {"a", "b"}, {"b", "a"}, {"", "a"}, {"a", ""}, {"a", "b", "ab"}, {"ab", "a", "b"}, {"a", "aa", "aaa"},
		{"a", "A"}, {"int", "bool"}, {"a", "a "}, {"a", "a\x00"}, {"", "\x00"}, {"\xff", "\xfe", "\ufffd"}, {"e\u0301", "\u00e9"},
		{"1", "01"}, {"b", "a", "c", "d", "e", "f", "g", "h", "i", "j"},
	} {
		if !impl.AllDistinct(list) {
			t.Errorf("AllDistinct(%q) = false", list)
		}
	}
	for _, list := range [][]string{
		{"a", "a"}, {"", ""}, {"", "a", ""}, {"a", "b", "a"}, {"a", "a", "b"}, {"b", "a", "a"}, {"a", "b", "c", "b"}, {"a", "a", "a"},
		{"int", "int"}, {"A", "A"}, {"\xff", "a", "\xff"}, {"abcdefghijklmnop", "x", "abcdefghijklmnop"}, {"", "a", "b", "c", "d", "e", "f", "g", ""},
	} {
		if impl.AllDistinct(list) {
			t.Errorf("AllDistinct(%q) = true", list)
		}
	}
	for _, list := range allLists([]string{"", "a", "b", "aa", "ab"}, 5) {
		if got := impl.AllDistinct(list); got != pairwiseDistinct(list) {
			t.Fatalf("AllDistinct(%q) = %v", list, got)
		}
	}
}

func TestIndexOf(t *testing.T) {
	cases := []struct {
		list []string
		s    string
		want int
	}{
		{nil, "a", -1}, {nil, "", -1}, {[]string{}, "a", -1}, {[]string{}, "", -1},
		{[]string{"a"}, "a", 0}, {[]string{"a"}, "b", -1}, {[]string{"a"}, "", -1}, {[]string{""}, "", 0}, {[]string{""}, "a", -1},
		{[]string{"a", "b", "c"}, "a", 0}, {[]string{"a", "b", "c"}, "b", 1}, {[]string{"a", "b", "c"}, "c", 2}, {[]string{"a", "b", "c"}, "d", -1},
		{[]string{"a", "b", "b"}, "b", 1}, {[]string{"a", "a", "a"}, "a", 0}, {[]string{"b", "a", "b", "a"}, "a", 1},
		{[]string{"a", "", ""}, "", 1}, {[]string{"a", "b"}, "", -1}, {[]string{"ab", "a"}, "a", 1}, {[]string{"ab"}, "a", -1}, {[]string{"ab"}, "b", -1},
		{[]string{"a"}, "ab", -1}, {[]string{"A"}, "a", -1}, {[]string{"a "}, "a", -1}, {[]string{"\xff", "\xfe"}, "\xfe", 1}, {[]string{"\xff"}, "\ufffd", -1},
		{[]string{"c", "b", "a"}, "a", 2}, {[]string{"z", "a", "m"}, "m", 2},
	}
	for _, c := range cases {
		if got := impl.IndexOf(c.list, c.s); got != c.want {
			t.Errorf("IndexOf(%q, %q) = %d, want %d", c.list, c.s, got, c.want)
		}
	}
}

func TestIndexOfInEveryShortList(t *testing.T) {
	elements := []string{"", "a", "b", "ab"}
	for _, list := range allLists(elements, 5) {
		for _, s := range append(elements, "c", "ba") {
			got := impl.IndexOf(list, s)
			if got == -1 {
				if slices.Contains(list, s) {
					t.Fatalf("IndexOf(%q, %q) = -1", list, s)
				}
				continue
			}
			if got < 0 || got >= len(list) || list[got] != s || impl.IndexOf(list[:got], s) != -1 {
				t.Fatalf("IndexOf(%q, %q) = %d", list, s, got)
			}
		}
	}
}

// unionByDefinition keeps an element if none before it, in a and then in b, is equal to it.
func unionByDefinition(a, b []string) []string {
	both := append(slices.Clone(a), b...)
	var union []string
	for i, s := range both {
		if !slices.Contains(both[:i], s) {
			union = append(union, s)
		}
	}
	return union
}

func TestUnion(t *testing.T) {
	cases := []struct{ a, b, want []string }{
		{nil, nil, nil}, {nil, []string{}, nil}, {[]string{}, nil, nil}, {[]string{}, []string{}, nil},
		{[]string{"b", "a", "b"}, []string{"c", "a"}, []string{"b", "a", "c"}},
		{[]string{"b", "a", "b"}, []string{"c", "a", "c"}, []string{"b", "a", "c"}},
		{[]string{"a"}, nil, []string{"a"}}, {nil, []string{"a"}, []string{"a"}}, {[]string{"a"}, []string{"a"}, []string{"a"}},
		{[]string{"a", "b"}, []string{"c", "d"}, []string{"a", "b", "c", "d"}}, {[]string{"d", "c"}, []string{"b", "a"}, []string{"d", "c", "b", "a"}},
		{[]string{"a", "a"}, nil, []string{"a"}}, {nil, []string{"a", "a"}, []string{"a"}}, {nil, []string{"b", "a", "b"}, []string{"b", "a"}},
		{[]string{"a", "b", "a", "b"}, []string{"b", "a", "b", "a"}, []string{"a", "b"}}, {[]string{"a"}, []string{"b", "a", "c"}, []string{"a", "b", "c"}},
		{[]string{""}, nil, []string{""}}, {nil, []string{""}, []string{""}}, {[]string{"", "a", ""}, []string{"b", ""}, []string{"", "a", "b"}},
		{[]string{"a"}, []string{"", ""}, []string{"a", ""}}, {[]string{"a", "b"}, []string{"ab"}, []string{"a", "b", "ab"}},
		{[]string{"a"}, []string{"A", "a", "a "}, []string{"a", "A", "a "}}, {[]string{"\xff"}, []string{"\xfe", "\ufffd", "\xff"}, []string{"\xff", "\xfe", "\ufffd"}},
		{[]string{"int", "1a"}, []string{"int", "x y"}, []string{"int", "1a", "x y"}},
	}
	for _, c := range cases {
		if got := impl.Union(c.a, c.b); !slices.Equal(got, c.want) {
			t.Errorf("Union(%q, %q) = %q, want %q", c.a, c.b, got, c.want)
		}
	}
}

func TestUnionOfEveryTwoShortLists(t *testing.T) {
	lists := allLists([]string{"", "a", "b"}, 4)
	for _, a := range lists {
		for _, b := range lists {
			got := impl.Union(a, b)
			if !slices.Equal(got, unionByDefinition(a, b)) {
				t.Fatalf("Union(%q, %q) = %q", a, b, got)
			}
			if !impl.AllDistinct(got) {
				t.Fatalf("Union(%q, %q) repeats an element: %q", a, b, got)
			}
		}
	}
}

// The lists are long enough that anything that depends on the order of a map shows.
func TestListsOfNames(t *testing.T) {
	random := rand.New(rand.NewSource(3))
	for range 300 {
		a, b := randomNames(random), randomNames(random)
		want := unionByDefinition(a, b)
		if got := impl.Union(a, b); !slices.Equal(got, want) {
			t.Fatalf("Union(%q, %q) = %q, want %q", a, b, got, want)
		}
		if got := impl.AllDistinct(a); got != pairwiseDistinct(a) {
			t.Fatalf("AllDistinct(%q) = %v", a, got)
		}
		if !impl.AllDistinct(want) {
			t.Fatalf("AllDistinct(%q) = false", want)
		}
		for i, s := range want {
			if got := impl.IndexOf(want, s); got != i {
				t.Fatalf("IndexOf(%q, %q) = %d, want %d", want, s, got, i)
			}
		}
	}
}

func randomNames(random *rand.Rand) []string {
	names := make([]string, random.Intn(60))
	for i := range names {
		names[i] = "n" + strconv.Itoa(random.Intn(1000))
	}
	return names
}

func TestLongLists(t *testing.T) {
	const size = 300000
	long := make([]string, size)
	for i := range long {
		long[i] = "s" + strconv.Itoa(i)
	}
	if !impl.AllDistinct(long) || impl.AllDistinct(append(slices.Clone(long), "s0")) {
		t.Error("AllDistinct is wrong on a long list")
	}
	if impl.IndexOf(long, "s"+strconv.Itoa(size-1)) != size-1 || impl.IndexOf(long, "s") != -1 {
		t.Error("IndexOf is wrong on a long list")
	}
	if !slices.Equal(impl.Union(long[:size/2], long), long) || !slices.Equal(impl.Union(long, long), long) {
		t.Error("Union is wrong on long lists")
	}
}

func TestNameFunctionsLeaveTheirArguments(t *testing.T) {
	for _, size := range []int{0, 1, 2, 3} {
		a := []string{"b", "a", "b", "spare", "spare", "spare", "spare"}
		b := []string{"c", "a", "d", "spare", "spare", "spare", "spare"}
		beforeA, beforeB := slices.Clone(a), slices.Clone(b)
		for _, other := range [][]string{nil, b[:0], b[:1], b[:3]} {
			impl.Union(a[:size], other)
			impl.Union(other, a[:size])
		}
		impl.Union(a[:size], a[:3])
		impl.AllDistinct(a[:size])
		impl.IndexOf(a[:size], "spare")
		if !slices.Equal(a, beforeA) || !slices.Equal(b, beforeB) {
			t.Errorf("a function changed its arguments to %q and %q", a, b)
		}
	}
}

func TestUnionReturnsNewMemory(t *testing.T) {
	for _, c := range [][2][]string{
		{{"a", "b"}, nil}, {nil, {"a", "b"}}, {{"a", "b"}, {"a"}}, {{"a"}, {"a", "b"}}, {{"a"}, {"b"}}, {{"a", "b"}, {"a", "b"}}, {{}, {"a", "b"}}, {{"a", "b"}, {}},
		{[]string{"a", "b", "spare"}[:2], nil}, {nil, []string{"a", "b", "spare"}[:2]},
		{[]string{"a", "spare", "spare"}[:1], []string{"b", "spare"}[:1]},
	} {
		a, b := slices.Clone(c[0][:cap(c[0])]), slices.Clone(c[1][:cap(c[1])])
		first, second := impl.Union(c[0], c[1]), impl.Union(c[0], c[1])
		for i := range first[:cap(first)] {
			first[:cap(first)][i] = "changed"
		}
		if !slices.Equal(c[0][:cap(c[0])], a) || !slices.Equal(c[1][:cap(c[1])], b) {
			t.Errorf("the result of Union shares memory with an argument: %q, %q", c[0], c[1])
		}
		for _, list := range c {
			for i := range list[:cap(list)] {
				list[:cap(list)][i] = "overwritten"
			}
		}
		if !slices.Equal(second, []string{"a", "b"}) {
			t.Errorf("the result of Union shares memory with an argument or another result: %q", second)
		}
	}
}
