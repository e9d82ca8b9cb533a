package tests

import (
	"reflect"
	"strings"
	"testing"

	"loop.example/g00508/impl"
)

func atom(s string) impl.SExpr { return impl.SExpr{Atom: s} }

func list(elements ...impl.SExpr) impl.SExpr { return impl.SExpr{List: elements} }

// nest puts x into depth lists.
func nest(x impl.SExpr, depth int) impl.SExpr {
	for range depth {
		x = list(x)
	}
	return x
}

// wide returns a list of the given number of copies of x.
func wide(x impl.SExpr, count int) impl.SExpr {
	elements := make([]impl.SExpr, count)
	for i := range elements {
		elements[i] = x
	}
	return list(elements...)
}

// copySExpr copies x so that the two share no memory.
func copySExpr(x impl.SExpr) impl.SExpr {
	out := impl.SExpr{Atom: x.Atom}
	for _, element := range x.List {
		out.List = append(out.List, copySExpr(element))
	}
	return out
}

// sexprsOfSize returns every valid expression of the given size over the given atoms.
func sexprsOfSize(atoms []string, size int) []impl.SExpr {
	var all []impl.SExpr
	if size == 1 {
		for _, s := range atoms {
			all = append(all, atom(s))
		}
	}
	for _, elements := range sexprListsOfSize(atoms, size-1) {
		all = append(all, impl.SExpr{List: elements})
	}
	return all
}

func sexprListsOfSize(atoms []string, size int) [][]impl.SExpr {
	if size == 0 {
		return [][]impl.SExpr{nil}
	}
	var all [][]impl.SExpr
	for first := 1; first <= size; first++ {
		for _, x := range sexprsOfSize(atoms, first) {
			for _, rest := range sexprListsOfSize(atoms, size-first) {
				all = append(all, append([]impl.SExpr{x}, rest...))
			}
		}
	}
	return all
}

func TestIsValidAtomOfEveryByte(t *testing.T) {
	const allowed = "abcdefghijklmnopqrstuvwxyz0123456789'-+*<=."
	for b := range 256 {
		one := string([]byte{byte(b)})
		want := strings.Contains(allowed, one)
		for _, s := range []string{one, one + "a", "a" + one, "a" + one + "a", strings.Repeat(one, 12), "aaaaaaaaaaa" + one} {
			if got := impl.IsValidAtom(s); got != want {
				t.Errorf("IsValidAtom(%q) = %v", s, got)
			}
		}
	}
}

func TestIsValidAtomLength(t *testing.T) {
	for size := range 40 {
		for _, letter := range []string{"a", "z", "0", "9", "'", ".", "<"} {
			s := strings.Repeat(letter, size)
			if got, want := impl.IsValidAtom(s), size >= 1 && size <= 12; got != want {
				t.Errorf("IsValidAtom(%q) = %v", s, got)
			}
		}
	}
	if impl.IsValidAtom(strings.Repeat("a", 1000000)) {
		t.Error("IsValidAtom accepts an atom of 1000000 bytes")
	}
}

func TestIsValidAtomOfRunes(t *testing.T) {
	for _, s := range []string{
		"\u00e9", "a\u00e9", "\u00e9a", "\u0161", "\u0130", "\u0660", "\uff41", "\u2019", "\ufffd", "\U0001d41a", "\u0430",
		"\xc3", "a\xc3", "\xe9", "\x80", "\xff", "\xed\xa0\x80",
		"aaaaaaaaaaa\u00e9", "\u00e9\u00e9\u00e9\u00e9\u00e9\u00e9",
	} {
		if impl.IsValidAtom(s) {
			t.Errorf("IsValidAtom(%q) = true", s)
		}
	}
}

func TestSExprSizeAndDepth(t *testing.T) {
	a := atom("a")
	cases := []struct {
		name        string
		x           impl.SExpr
		size, depth int
	}{
		{"zero", impl.SExpr{}, 1, 1},
		{"empty list", impl.SExpr{List: []impl.SExpr{}}, 1, 1},
		{"atom", a, 1, 0},
		{"(a)", list(a), 2, 1},
		{"(())", list(list()), 2, 2},
		{"(a a a)", list(a, a, a), 4, 1},
		{"(a (b c) ())", list(a, list(a, a), list()), 6, 2},
		{"((a) ((a)) a)", list(list(a), list(list(a)), a), 7, 3},
		{"((((a))) (a) a)", list(nest(a, 3), list(a), a), 8, 4},
		{"many lists", wide(nest(a, 2), 299), 898, 3},
		{"depth 14", nest(a, 14), 15, 14},
		{"depth 15", nest(list(), 14), 15, 15},
		{"size 901", wide(a, 900), 901, 1},
		// Invalid ones: an atom has the depth 0 and the elements count for the size, whatever else it is.
		{"invalid atom", atom("A B"), 1, 0},
		{"atom and list", impl.SExpr{Atom: "a", List: []impl.SExpr{a, list(a)}}, 4, 0},
		{"atom and list in a list", list(impl.SExpr{Atom: "a", List: []impl.SExpr{nest(a, 5)}}), 8, 1},
		{"atom and list beside a list", list(impl.SExpr{Atom: "?", List: []impl.SExpr{nest(a, 5)}}, nest(a, 1)), 10, 2},
	}
	for _, c := range cases {
		if got := impl.SExprSize(c.x); got != c.size {
			t.Errorf("%s: SExprSize = %d, want %d", c.name, got, c.size)
		}
		if got := impl.SExprDepth(c.x); got != c.depth {
			t.Errorf("%s: SExprDepth = %d, want %d", c.name, got, c.depth)
		}
	}
}

func TestSExprOfAnyDepthAndSize(t *testing.T) {
	const depth, width = 1000000, 1000000
	deep, same, other := nest(atom("a"), depth), nest(atom("a"), depth), nest(atom("b"), depth)
	if n := impl.SExprSize(deep); n != depth+1 {
		t.Errorf("SExprSize = %d of a list nested %d times", n, depth)
	}
	if n := impl.SExprDepth(deep); n != depth {
		t.Errorf("SExprDepth = %d of a list nested %d times", n, depth)
	}
	if !impl.EqualSExpr(deep, same) || impl.EqualSExpr(deep, other) || impl.EqualSExpr(deep, list(deep)) {
		t.Error("EqualSExpr is wrong on lists that are nested deeply")
	}
	rejectSExpr(t, "a list nested deeply", deep)
	broad := wide(atom("a"), width)
	if n := impl.SExprSize(broad); n != width+1 {
		t.Errorf("SExprSize = %d of a list with %d elements", n, width)
	}
	if n := impl.SExprDepth(broad); n != 1 {
		t.Errorf("SExprDepth = %d of a list of atoms", n)
	}
	if !impl.EqualSExpr(broad, wide(atom("a"), width)) || impl.EqualSExpr(broad, wide(atom("a"), width+1)) {
		t.Error("EqualSExpr is wrong on lists with many elements")
	}
	rejectSExpr(t, "a list with many elements", broad)
}

// Its size doubles with each list, so that only a check that stops at a limit comes to an end.
func TestSExprWithSharedParts(t *testing.T) {
	x := atom("a")
	for range 100 {
		x = list(x, x)
	}
	rejectSExpr(t, "a list of shared parts", x)
	x = atom("a")
	for range 14 {
		x = wide(x, 100)
	}
	rejectSExpr(t, "a list of shared parts within the depth", x)
	loop := make([]impl.SExpr, 1)
	loop[0].List = loop
	rejectSExpr(t, "a list that contains itself", loop[0])
}

func rejectSExpr(t *testing.T, name string, x impl.SExpr) {
	t.Helper()
	if impl.IsValidSExpr(x) {
		t.Errorf("%s: IsValidSExpr = true", name)
	}
	if s := impl.FormatSExpr(x); s != "" {
		t.Errorf("%s: FormatSExpr = %.40q", name, s)
	}
}

// acceptSExpr checks that x is valid and that its text denotes it.
func acceptSExpr(t *testing.T, name string, x impl.SExpr) {
	t.Helper()
	if !impl.IsValidSExpr(x) {
		t.Errorf("%s: IsValidSExpr = false", name)
	}
	s := impl.FormatSExpr(x)
	if y, ok := impl.ParseSExpr(s); !ok || !impl.EqualSExpr(x, y) {
		t.Errorf("%s: ParseSExpr(%.40q) = %v", name, s, ok)
	}
}

func TestSExprLimits(t *testing.T) {
	a, unit := atom("a"), list()
	for name, x := range map[string]impl.SExpr{
		"atom":                      a,
		"empty list":                unit,
		"atom at depth 14":          nest(a, 14),
		"empty list at depth 14":    nest(unit, 13),
		"depth 14 in the middle":    list(a, nest(a, 13), a),
		"size 900":                  wide(a, 899),
		"size 900 of empty lists":   wide(unit, 899),
		"size 900 nested":           list(wide(a, 448), wide(a, 449)),
		"size 900 of lists of one":  list(append(wide(list(a), 449).List, unit)...),
		"size 900 and depth 14":     list(append(wide(a, 885).List, nest(a, 13))...),
		"size 900, depth 14, first": list(append([]impl.SExpr{nest(a, 13)}, wide(a, 885).List...)...),
		"atom of 12 bytes":          list(atom("abcdefghijkl")),
		"the seven signs":           list(atom("'"), atom("-"), atom("+"), atom("*"), atom("<"), atom("="), atom("."), atom("'-+*<=.")),
	} {
		acceptSExpr(t, name, x)
	}
	both := impl.SExpr{Atom: "a", List: []impl.SExpr{a}}
	for name, x := range map[string]impl.SExpr{
		"atom at depth 15":          nest(a, 15),
		"empty list at depth 15":    nest(unit, 14),
		"depth 15 in the middle":    list(a, nest(a, 14), a),
		"depth 15 at the end":       list(a, a, nest(unit, 13)),
		"size 901":                  wide(a, 900),
		"size 901 of empty lists":   wide(unit, 900),
		"size 901 nested":           list(wide(a, 449), wide(a, 449)),
		"size 901 of lists of one":  wide(list(a), 450),
		"size 901 and depth 14":     list(append(wide(a, 886).List, nest(a, 13))...),
		"size 901, depth 14, first": list(append([]impl.SExpr{nest(a, 13)}, wide(a, 886).List...)...),
		"atom of 13 bytes":          atom("abcdefghijklm"),
		"atom of 13 bytes inside":   list(a, atom("abcdefghijklm")),
		"invalid atom":              atom("A"),
		"atom of a space":           atom(" "),
		"atom of two words":         list(atom("a b")),
		"atom of a list":            atom("()"),
		"invalid atom inside":       list(a, list(a, atom("x_y"), a)),
		"invalid atom, depth 14":    nest(atom("("), 14),
		"atom and list":             both,
		"atom and empty element":    {Atom: "a", List: []impl.SExpr{{}}},
		"atom and list inside":      list(a, both),
		"atom and list, depth 14":   nest(both, 14),
		"invalid atom and list":     {Atom: "A", List: []impl.SExpr{a}},
		"invalid atom, empty list":  {Atom: "A", List: []impl.SExpr{}},
	} {
		rejectSExpr(t, name, x)
	}
	acceptSExpr(t, "atom with an empty list", impl.SExpr{Atom: "a", List: []impl.SExpr{}})
}

func TestFormatSExpr(t *testing.T) {
	a, b, c := atom("a"), atom("b"), atom("c")
	cases := []struct {
		x    impl.SExpr
		want string
	}{
		{impl.SExpr{}, "()"}, {impl.SExpr{List: []impl.SExpr{}}, "()"}, {a, "a"}, {list(a), "(a)"}, {list(a, b), "(a b)"},
		{list(list()), "(())"}, {list(list(), list()), "(() ())"}, {list(list(a), b), "((a) b)"},
		{list(a, list(b, c), list()), "(a (b c) ())"},
		{list(list(list(a), b), list(list(c))), "(((a) b) ((c)))"},
		{list(atom("'a"), atom("-5"), atom("<="), atom("x.y*+")), "('a -5 <= x.y*+)"},
		{nest(a, 14), "((((((((((((((a))))))))))))))"},
		{wide(a, 899), "(" + strings.Repeat("a ", 898) + "a)"},
	}
	for _, test := range cases {
		if got := impl.FormatSExpr(test.x); got != test.want {
			t.Errorf("FormatSExpr = %q, want %q", got, test.want)
		}
	}
}

func TestParseSExpr(t *testing.T) {
	a, b, c := atom("a"), atom("b"), atom("c")
	cases := []struct {
		s    string
		want impl.SExpr
	}{
		{"a", a}, {"()", list()}, {"(a)", list(a)}, {"(a b)", list(a, b)}, {"(ab)", list(atom("ab"))},
		{"(())", list(list())}, {"(()())", list(list(), list())}, {"(() ())", list(list(), list())},
		{"(a(b c)())", list(a, list(b, c), list())}, {"((a)b)", list(list(a), b)}, {"((a)(b))", list(list(a), list(b))},
		{" a", a}, {"a ", a}, {"\na\n", a}, {"  \n\n a \n \n", a}, {" () ", list()}, {"( )", list()}, {"(\n)", list()},
		{" ( a ) ", list(a)}, {"\n(\na\n)\n", list(a)}, {"(a  b)", list(a, b)}, {"(a\nb)", list(a, b)}, {"(a \n\n b)", list(a, b)},
		{"(a (b) c)", list(a, list(b), c)}, {"( a\n( b\nc )( )\n)", list(a, list(b, c), list())},
		{"'-+*<=.", atom("'-+*<=.")}, {"(' - + * < = .)", list(atom("'"), atom("-"), atom("+"), atom("*"), atom("<"), atom("="), atom("."))},
		{"-007", atom("-007")}, {"abcdefghijkl", atom("abcdefghijkl")}, {"(a(b(c)))", list(a, list(b, list(c)))},
		{strings.Repeat(" ", 100000) + "a" + strings.Repeat("\n", 100000), a},
		{strings.Repeat("(\n ", 14) + strings.Repeat(" )\n", 14), nest(list(), 13)},
		{"(" + strings.Repeat("()", 899) + ")", wide(list(), 899)},
		{"(" + strings.Repeat("\nabcdefghijkl", 899) + ")", wide(atom("abcdefghijkl"), 899)},
	}
	for _, test := range cases {
		got, ok := impl.ParseSExpr(test.s)
		if !ok || !impl.EqualSExpr(got, test.want) {
			t.Errorf("ParseSExpr(%.40q) = %v, %v", test.s, got, ok)
		}
	}
}

func rejectText(t *testing.T, s string) {
	t.Helper()
	if x, ok := impl.ParseSExpr(s); ok || x.Atom != "" || x.List != nil {
		t.Errorf("ParseSExpr(%.60q) = %v, %v", s, x, ok)
	}
}

func TestParseSExprRejects(t *testing.T) {
	for _, s := range []string{
		"", " ", "\n", " \n ", "(", ")", "((", "))", ")(", "(a", "a)", "a(", "(a))", "((a)", "(a)(", "(a) )", "()(", "(()", "())",
		"a b", "a\nb", "a a", "() ()", "()()", "(a)(b)", "a()", "a ()", "()a", "() a", "(a) b", "a (b)",
		"A", "aB", "(A)", "(a B)", "Z", "a\tb", "\ta", "a\t", "(\t)", "(a\t)", "(a\tb)", "(a\rb)", "(a\vb)", "(a\fb)", "(a\x00b)", "a\x00", "\x00",
		"(a\u00a0b)", "(a\u0085b)", "\u00e9", "(\u00e9)", "(a \u00e9)", "\xff", "(a\xffb)", "\x80", "a\x80", "(a \xc3)", "\ufeffa", "\u0161",
		"(a,b)", "[a]", "{a}", "a_b", "a/b", "a>b", "a#b", "\"a\"", "a:b", "a;b", "`a", "~a", "|a", "a?", "!a", "$", "%", "&", "@", "\\", "^", "a\x7f",
		"abcdefghijklm", "(abcdefghijklm)", "(a abcdefghijklm b)", strings.Repeat("a", 1000000), "(" + strings.Repeat("a", 1000000) + ")",
		strings.Repeat("(", 15) + strings.Repeat(")", 15), strings.Repeat("(", 15) + "a" + strings.Repeat(")", 15),
		"(a " + strings.Repeat("(", 14) + strings.Repeat(")", 14) + ")",
		"(" + strings.Repeat("a ", 900) + ")", "(" + strings.Repeat("()", 900) + ")", "(" + strings.Repeat("(a)", 450) + ")",
		strings.Repeat("a ", 1000), strings.Repeat("()", 1000), "(" + strings.Repeat("a ", 899),
		strings.Repeat("(", 1000000), strings.Repeat(")", 1000000), strings.Repeat("(", 1000000) + strings.Repeat(")", 1000000),
		strings.Repeat("(", 1000000) + "a" + strings.Repeat(")", 1000000), "(" + strings.Repeat("a ", 1000000) + ")",
	} {
		rejectText(t, s)
	}
}

// Every byte between two atoms, so that none but the two kinds of white space separates them.
func TestParseSExprWithEveryByte(t *testing.T) {
	for b := range 256 {
		one := string([]byte{byte(b)})
		x, ok := impl.ParseSExpr("(a" + one + "b)")
		switch {
		case b == ' ' || b == '\n':
			if !ok || !impl.EqualSExpr(x, list(atom("a"), atom("b"))) {
				t.Errorf("ParseSExpr of the byte %q = %v, %v", one, x, ok)
			}
		case impl.IsValidAtom(one):
			if !ok || !impl.EqualSExpr(x, list(atom("a"+one+"b"))) {
				t.Errorf("ParseSExpr of the byte %q = %v, %v", one, x, ok)
			}
		default:
			rejectText(t, "(a"+one+"b)")
			rejectText(t, "a"+one)
			rejectText(t, one+"a")
			rejectText(t, "(a)"+one)
			rejectText(t, one+"(a)")
		}
	}
}

// readTokens is the grammar written differently: by replacing text instead of scanning it.
func readTokens(s string) (string, bool) {
	s = strings.ReplaceAll(strings.ReplaceAll(s, "(", " ( "), ")", " ) ")
	tokens := strings.Fields(s)
	open := 0
	for i, token := range tokens {
		switch token {
		case "(":
			open++
		case ")":
			open--
		}
		if open < 0 || open == 0 && i < len(tokens)-1 {
			return "", false
		}
	}
	if open != 0 || len(tokens) == 0 {
		return "", false
	}
	s = strings.Join(tokens, " ")
	return strings.ReplaceAll(strings.ReplaceAll(s, "( ", "("), " )", ")"), true
}

func TestParseSExprOfEveryShortText(t *testing.T) {
	for _, s := range allStrings("(a) \n", 7) {
		want, valid := readTokens(s)
		x, ok := impl.ParseSExpr(s)
		if ok != valid {
			t.Fatalf("ParseSExpr(%q) = %v, %v", s, x, ok)
		}
		if !valid {
			rejectText(t, s)
		} else if got := impl.FormatSExpr(x); got != want {
			t.Fatalf("ParseSExpr(%q) is formatted as %q, want %q", s, got, want)
		}
	}
}

func TestParseSExprInvertsFormatSExpr(t *testing.T) {
	texts := map[string]bool{}
	count := 0
	for size := 1; size <= 6; size++ {
		for _, x := range sexprsOfSize([]string{"a", "'b-1"}, size) {
			s := impl.FormatSExpr(x)
			y, ok := impl.ParseSExpr(s)
			if !ok || !impl.EqualSExpr(x, y) || !reflect.DeepEqual(copySExpr(x), copySExpr(y)) || impl.SExprSize(y) != size {
				t.Fatalf("ParseSExpr(%q) = %v, %v", s, y, ok)
			}
			texts[s] = true
			count++
		}
	}
	if len(texts) != count {
		t.Errorf("%d expressions have %d texts", count, len(texts))
	}
}

func TestEqualSExprOfSmallExpressions(t *testing.T) {
	var all []impl.SExpr
	for size := 1; size <= 4; size++ {
		all = append(all, sexprsOfSize([]string{"a", "'b-1"}, size)...)
	}
	for i, x := range all {
		for j, y := range all {
			if got := impl.EqualSExpr(x, copySExpr(y)); got != (i == j) {
				t.Fatalf("EqualSExpr(%s, %s) = %v", impl.FormatSExpr(x), impl.FormatSExpr(y), got)
			}
		}
	}
}

func TestEqualSExpr(t *testing.T) {
	a, b := atom("a"), atom("b")
	both := impl.SExpr{Atom: "a", List: []impl.SExpr{b}}
	room := make([]impl.SExpr, 1, 9)
	room[0] = a
	equal := [][2]impl.SExpr{
		{{}, {List: []impl.SExpr{}}}, {{Atom: "a"}, {Atom: "a", List: []impl.SExpr{}}},
		{list(a), {List: room}}, {list(list()), list(impl.SExpr{List: []impl.SExpr{}})},
		{both, copySExpr(both)}, {atom("A B"), atom("A B")}, {nest(both, 20), nest(both, 20)}, {wide(a, 1000), wide(a, 1000)},
	}
	for i, pair := range equal {
		if !impl.EqualSExpr(pair[0], pair[1]) || !impl.EqualSExpr(pair[1], pair[0]) {
			t.Errorf("EqualSExpr is false for pair %d", i)
		}
	}
	different := [][2]impl.SExpr{
		{a, b}, {a, list()}, {a, list(a)}, {list(), list(list())}, {list(a), list(b)}, {list(a), list(a, a)}, {list(a, b), list(b, a)},
		{list(list(a), b), list(list(b), a)}, {list(list(a), list(b)), list(list(a, b))}, {list(list(), list(a)), list(list(a), list())},
		{a, both}, {list(b), both}, {both, {Atom: "b", List: []impl.SExpr{b}}}, {both, {Atom: "a", List: []impl.SExpr{a}}},
		{both, {Atom: "a", List: []impl.SExpr{b, b}}}, {nest(a, 20), nest(a, 21)}, {nest(a, 20), nest(b, 20)}, {wide(a, 1000), wide(a, 1001)},
		{atom("a"), atom("aa")}, {atom("A"), atom("a")}, {atom("a "), atom("a")},
	}
	for i, pair := range different {
		if impl.EqualSExpr(pair[0], pair[1]) || impl.EqualSExpr(pair[1], pair[0]) {
			t.Errorf("EqualSExpr is true for pair %d", i)
		}
	}
}

func TestSExprFunctionsLeaveTheirArguments(t *testing.T) {
	spare := atom("spare")
	inner := []impl.SExpr{atom("b"), list(), spare, spare}
	whole := []impl.SExpr{atom("a"), {List: inner[:2]}, spare, spare}
	x, before, beforeInner := impl.SExpr{List: whole[:2]}, copySExpr(list(whole...)), copySExpr(list(inner...))
	if impl.SExprSize(x) != 5 || impl.SExprDepth(x) != 3 || !impl.IsValidSExpr(x) || impl.FormatSExpr(x) != "(a (b ()))" || !impl.EqualSExpr(x, x) {
		t.Error("a function is wrong on a list with spare capacity")
	}
	if !reflect.DeepEqual(copySExpr(list(whole...)), before) || !reflect.DeepEqual(copySExpr(list(inner...)), beforeInner) {
		t.Error("a function changed its argument")
	}
}

// Lists that shared memory would see what is appended to or stored in another one.
func TestParseSExprReturnsNewMemory(t *testing.T) {
	const text = "((a b c) (d e f) ((g) (h)) () (i j k l m))"
	x, _ := impl.ParseSExpr(text)
	y, _ := impl.ParseSExpr(text)
	spoil(x)
	if got := impl.FormatSExpr(y); got != text {
		t.Errorf("two results of ParseSExpr share memory: %q", got)
	}
	for i := range y.List {
		y, _ = impl.ParseSExpr(text)
		spoil(y.List[i])
		y.List[i] = x
		for j, element := range y.List {
			want, _ := impl.ParseSExpr(text)
			if i != j && !impl.EqualSExpr(element, want.List[j]) {
				t.Errorf("the elements %d and %d of a result of ParseSExpr share memory", i, j)
			}
		}
	}
}

// spoil overwrites every list in x, its spare capacity included.
func spoil(x impl.SExpr) {
	for i := range x.List {
		spoil(x.List[i])
	}
	for i := range x.List[:cap(x.List)] {
		x.List[:cap(x.List)][i] = atom("spoilt")
	}
}
