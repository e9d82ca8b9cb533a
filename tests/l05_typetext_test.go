package tests

import (
	"math/rand"
	"reflect"
	"slices"
	"strings"
	"testing"

	"loop.example/g00508/impl"
)

// encodingByDefinition states the four encodings as the document does. It asks for no limits.
func encodingByDefinition(t impl.Type) impl.SExpr {
	var x impl.SExpr
	switch {
	case t.Kind == 1:
		return atom("'" + t.Name)
	case t.Kind == 2 && len(t.Args) == 0:
		return atom(t.Name)
	case t.Kind == 2:
		x = list(atom(t.Name))
	case t.Kind == 3:
		x = list(atom("assoc"), atom(t.Name))
	case t.Kind == 4:
		x = list(atom("dyn"), atom(t.Name))
	}
	for _, arg := range t.Args {
		x.List = append(x.List, encodingByDefinition(arg))
	}
	return x
}

func sameType(a, b impl.Type) bool { return reflect.DeepEqual(copyType(a), copyType(b)) }

func sameSExpr(a, b impl.SExpr) bool { return reflect.DeepEqual(copySExpr(a), copySExpr(b)) }

// checkTypeSyntax compares both encodings of x with the definition and, if x is valid, decodes them again.
func checkTypeSyntax(t *testing.T, x impl.Type) {
	t.Helper()
	got, text := impl.TypeToSExpr(x), impl.FormatType(x)
	if !validByDefinition(x) {
		if !sameSExpr(got, impl.SExpr{}) || text != "" {
			t.Errorf("the invalid type %.200v is encoded as %.200v and formatted as %.200q", x, got, text)
		}
		return
	}
	want := encodingByDefinition(x)
	if !sameSExpr(got, want) {
		t.Errorf("TypeToSExpr(%v) = %v, want %v", x, got, want)
	}
	if form := impl.FormatSExpr(want); form == "" || text != form {
		t.Errorf("FormatType(%v) = %q, want %q", x, text, form)
	}
	if back, ok := impl.SExprToType(want); !ok || !sameType(back, x) {
		t.Errorf("SExprToType(%v) = %v, %v", want, back, ok)
	}
	if back, ok := impl.ParseType(text); !ok || !sameType(back, x) {
		t.Errorf("ParseType(%q) = %v, %v", text, back, ok)
	}
}

func rejectType(t *testing.T, x impl.SExpr) {
	t.Helper()
	if got, ok := impl.SExprToType(x); ok || !sameType(got, impl.Type{}) {
		t.Errorf("SExprToType(%.200v) = %.200v, %v", x, got, ok)
	}
	rejectTypeText(t, impl.FormatSExpr(x))
}

func rejectTypeText(t *testing.T, s string) {
	t.Helper()
	if got, ok := impl.ParseType(s); ok || !sameType(got, impl.Type{}) {
		t.Errorf("ParseType(%.200q) = %.200v, %v", s, got, ok)
	}
}

func TestTypeSyntaxOfEveryKind(t *testing.T) {
	a, n := variable("a"), constructor("int")
	cases := []struct {
		x    impl.Type
		want string
	}{
		{a, "'a"}, {variable("abcdefgh"), "'abcdefgh"}, {variable("v0"), "'v0"}, {variable("list"), "'list"},
		{n, "int"}, {constructor("bool"), "bool"}, {constructor("unit"), "unit"}, {constructor("a"), "a"}, {constructor("abcdefgh"), "abcdefgh"},
		{constructor("list", a), "(list 'a)"}, {constructor("pair", a, n), "(pair 'a int)"}, {constructor("f", n, a, constructor("bool")), "(f int 'a bool)"},
		{projection("add", a), "(assoc add 'a)"}, {projection("add", constructor("list", a)), "(assoc add (list 'a))"}, {projection("add", n), "(assoc add int)"},
		{projection("add", projection("sub", a)), "(assoc add (assoc sub 'a))"}, {projection("add", dyn("show")), "(assoc add (dyn show))"},
		{dyn("show"), "(dyn show)"}, {constructor("list", dyn("show")), "(list (dyn show))"}, {constructor("list", constructor("unit")), "(list unit)"},
		{constructor("pair", projection("add", a), dyn("a")), "(pair (assoc add 'a) (dyn a))"}, {constructor("a", variable("a")), "(a 'a)"},
		{constructor("f", constructor("f", constructor("f", a), a), a), "(f (f (f 'a) 'a) 'a)"}, {constructor("add", constructor("add"), a), "(add add 'a)"},
		{nestType(a, 6), "(list (list (list (list (list (list 'a))))))"}, {nestType(dyn("show"), 6), "(list (list (list (list (list (list (dyn show)))))))"},
	}
	for _, test := range cases {
		if got := impl.FormatType(test.x); got != test.want {
			t.Errorf("FormatType(%v) = %q, want %q", test.x, got, test.want)
		}
		if got, ok := impl.ParseType(test.want); !ok || !sameType(got, test.x) {
			t.Errorf("ParseType(%q) = %v, %v", test.want, got, ok)
		}
		checkTypeSyntax(t, test.x)
	}
}

func TestTypesRoundTrip(t *testing.T) {
	for _, x := range validTypes() {
		for _, y := range insideValidTypes(x) {
			if impl.FormatType(y) == "" {
				t.Errorf("FormatType(%v) is empty", y)
			}
			checkTypeSyntax(t, y)
		}
	}
	for size := 1; size <= 3; size++ {
		for _, x := range typesOfSize([]string{"a", "b", "int"}, size) {
			checkTypeSyntax(t, x)
			checkTypeSyntax(t, constructor("pair", variable("b"), x))
		}
	}
	for size := 4; size <= 5; size++ {
		for _, x := range typesOfSize([]string{"a"}, size) {
			checkTypeSyntax(t, x)
		}
	}
}

// typesByText returns the valid types over the given names whose encodings have at most the given size, each by the text of its encoding.
func typesByText(names []string, size int) map[string]impl.Type {
	types := map[string]impl.Type{}
	for _, x := range typesWithEncoding(names, size) {
		if validByDefinition(x) {
			types[impl.FormatSExpr(encodingByDefinition(x))] = x
		}
	}
	return types
}

func typesWithEncoding(names []string, size int) []impl.Type {
	var all []impl.Type
	for _, name := range names {
		all = append(all, variable(name), constructor(name), dyn(name))
		if size > 2 {
			for _, args := range typeListsWithEncoding(names, size-2) {
				all = append(all, constructor(name, args...), projection(name, args...))
			}
		}
	}
	return slices.DeleteFunc(all, func(t impl.Type) bool { return encodedSize(t) > size })
}

func typeListsWithEncoding(names []string, size int) [][]impl.Type {
	all := [][]impl.Type{nil}
	if size < 1 {
		return all
	}
	for _, x := range typesWithEncoding(names, size) {
		for _, rest := range typeListsWithEncoding(names, size-encodedSize(x)) {
			all = append(all, append([]impl.Type{x}, rest...))
		}
	}
	return all
}

func encodedSize(t impl.Type) int { return impl.SExprSize(encodingByDefinition(t)) }

// A small S-expression denotes a type exactly if it is the encoding of a small one.
func TestEverySmallSExprAsType(t *testing.T) {
	checkSmallSExprs(t, []string{"a", "int"}, []string{"'a", "a", "int", "assoc", "dyn", "'", "'int"}, 5)
	checkSmallSExprs(t, []string{"a", "f"}, []string{"'a", "f", "assoc", "dyn"}, 7)
	checkSmallSExprs(t, []string{"bool"}, []string{"bool", "'bool", "case", "-5"}, 5)
}

func checkSmallSExprs(t *testing.T, names, atoms []string, size int) {
	t.Helper()
	types := typesByText(names, size)
	for n := 1; n <= size; n++ {
		for _, x := range sexprsOfSize(atoms, n) {
			want, ok := types[impl.FormatSExpr(x)]
			checkDecoded(t, x, ok, want)
		}
	}
}

// checkDecoded compares the answer about x with the type it denotes, if any.
func checkDecoded(t *testing.T, x impl.SExpr, denotes bool, want impl.Type) {
	t.Helper()
	if !denotes {
		rejectType(t, x)
	} else if got, ok := impl.SExprToType(x); !ok || !sameType(got, want) {
		t.Errorf("SExprToType(%v) = %v, %v, want %v", x, got, ok, want)
	}
}

// Every word that is or nearly is a keyword, and others, at each place that an atom may have.
func TestEveryWordAsPartOfAType(t *testing.T) {
	words := append(nearKeywords(), allStrings("a1'-", 3)...)
	words = append(words, "abcdefgh", "abcdefghi", "a2345678", "a23456789", "abcdefghijkl", "abcdefghijklm", "'abcdefghijk", "''a", "<=", "v0", "'v0", "1", "-1", "int'", "\u00e9", "A")
	a := variable("a")
	for _, s := range words {
		name := namePattern.MatchString(s) && !slices.Contains(keywords, s)
		if s == "" || s[0] != '\'' {
			checkDecoded(t, atom(s), name || s == "int" || s == "bool", constructor(s))
		}
		checkDecoded(t, atom("'"+s), name, variable(s))
		checkDecoded(t, list(atom(s), atom("'a")), name, constructor(s, a))
		checkDecoded(t, list(atom("assoc"), atom(s), atom("'a")), name, projection(s, a))
		checkDecoded(t, list(atom("dyn"), atom(s)), name, dyn(s))
		checkDecoded(t, list(atom("list"), atom("'"+s)), name, constructor("list", variable(s)))
	}
	for _, s := range keywords {
		rejectTypeText(t, "'"+s)
		rejectTypeText(t, "("+s+" 'a)")
		rejectTypeText(t, "("+s+")")
		if s != "int" && s != "bool" {
			rejectTypeText(t, s)
			rejectTypeText(t, "(list "+s+")")
		}
	}
}

func TestTypeSyntaxAtTheDepthLimit(t *testing.T) {
	a := variable("a")
	for _, leaf := range []impl.Type{a, constructor("int"), constructor("unit"), dyn("show")} {
		for depth := range 14 {
			x, p := nestType(leaf, depth), leaf
			for range depth {
				p = projection("add", p)
			}
			for _, y := range []impl.Type{x, p, constructor("f", x, a, a), constructor("f", a, p, a), constructor("f", a, a, x), projection("add", x)} {
				checkTypeSyntax(t, y)
				// The S-expression alone may still be within its own limits, which are wider.
				checkDecoded(t, encodingByDefinition(y), depthByDefinition(y) <= 6, y)
			}
		}
	}
	for _, depth := range []int{6, 7, 14} {
		x := encodingByDefinition(nestType(a, depth))
		if !impl.IsValidSExpr(x) {
			t.Errorf("the S-expression of depth %d is invalid", depth)
		}
		checkDecoded(t, x, depth == 6, nestType(a, depth))
	}
	beyond := encodingByDefinition(nestType(a, 15))
	if impl.IsValidSExpr(beyond) {
		t.Error("the S-expression of depth 15 is valid")
	}
	rejectType(t, beyond)
	rejectTypeText(t, strings.Repeat("(list ", 15)+"'a"+strings.Repeat(")", 15))
}

func TestTypeSyntaxAtTheSizeLimit(t *testing.T) {
	for size := 1; size <= 130; size++ {
		x := typeOfSize(size)
		checkTypeSyntax(t, x)
		checkDecoded(t, encodingByDefinition(x), size <= 60, x)
	}
	// Around the limit of the S-expression, which is 900.
	for size := 560; size <= 680; size++ {
		rejectType(t, encodingByDefinition(typeOfSize(size)))
	}
	for count := range 6 {
		x := typeWith(2, "f", count, variable("a"))
		checkDecoded(t, encodingByDefinition(x), count <= 3, x)
	}
	for _, count := range []int{58, 59, 60, 897, 898, 899} {
		rejectType(t, encodingByDefinition(typeWith(2, "f", count, variable("a"))))
		rejectTypeText(t, "(f"+strings.Repeat(" 'a", count)+")")
	}
}

// longTypeOfSize has, for its size, many elements and bytes in its encoding.
func longTypeOfSize(size, depth int) impl.Type {
	if size == 1 {
		return dyn("abcdefgh")
	}
	if size-1 <= depth {
		return projection("abcdefgh", longTypeOfSize(size-1, depth-1))
	}
	x := constructor("abcdefgh")
	rest := size - 1
	for places := 3; places > 0 && rest > 0; places-- {
		part := (rest + places - 1) / places
		x.Args = append(x.Args, longTypeOfSize(part, depth-1))
		rest -= part
	}
	return x
}

func TestTypesWithLongEncodings(t *testing.T) {
	for size := 1; size <= 61; size++ {
		x := longTypeOfSize(size, 6)
		if sizeByDefinition(x) != size || depthByDefinition(x) > 6 {
			t.Fatalf("the type %v is to have the size %d", x, size)
		}
		checkTypeSyntax(t, x)
		checkDecoded(t, encodingByDefinition(x), size <= 60, x)
	}
}

func TestInvalidTypesHaveNoSyntax(t *testing.T) {
	around := []impl.Type{typeWith(2, "int", 1, variable("a")), typeWith(1, "a", 1, variable("a")), typeWith(4, "show", 1, variable("a")), nestType(variable("a"), 7), typeOfSize(61)}
	for _, x := range append(around, invalidTypes()...) {
		for _, y := range insideValidTypes(x) {
			if got := impl.TypeToSExpr(y); !sameSExpr(got, impl.SExpr{}) {
				t.Errorf("TypeToSExpr(%v) = %v", y, got)
			}
			if got := impl.FormatType(y); got != "" {
				t.Errorf("FormatType(%v) = %q", y, got)
			}
		}
	}
	names := append(slices.Clone(keywords), "", "a", "abcdefgh", "abcdefghi", "1a", "A", "'a", "a b", "()", "(a)", "a\n", "\xff", "-")
	for kind := -1; kind <= 6; kind++ {
		for _, name := range names {
			for count := range 6 {
				checkTypeSyntax(t, typeWith(kind, name, count, constructor("list", variable("b"))))
			}
		}
	}
}

// insideTypes returns x and S-expressions that denote types but for x, which stands in them for a type.
func insideTypes(x impl.SExpr) []impl.SExpr {
	a, n, f := atom("'a"), atom("int"), atom("f")
	return []impl.SExpr{
		x, list(atom("list"), x), list(atom("assoc"), atom("add"), x), list(f, x, a, n), list(f, a, x, n), list(f, a, n, x),
		list(f, list(atom("assoc"), atom("add"), list(atom("pair"), n, x)), list(atom("dyn"), atom("show"))),
		list(atom("list"), list(atom("list"), list(atom("pair"), x, list(atom("pair"), a, a)))),
	}
}

func TestSExprsThatDenoteNoType(t *testing.T) {
	for _, s := range []string{
		"()", "(())", "((()))", "(() ())", "(() 'a)", "(list ())", "(list)", "(f)", "(int)", "(bool)", "('a)", "(')", "(assoc)", "(dyn)",
		"(int 'a)", "(bool bool)", "(int int)", "(int int int)", "(bool 'a 'a 'a)", "(f int int int int)", "(f 'a 'a 'a 'a 'a)",
		"('a int)", "('a 'b)", "(' 'b)", "('a 'b 'c)", "((list) 'a)", "((list 'a) 'a)", "((list 'a))", "((list))", "((dyn show) 'a)", "((assoc add 'a) 'a)", "((assoc) add 'a)", "((dyn) show)",
		"(assoc 'a)", "(assoc add)", "(assoc add 'a 'b)", "(assoc add 'a 'b 'c)", "(assoc (add) 'a)", "(assoc () 'a)", "(assoc 'add 'a)", "(assoc 'a add)", "(assoc int 'a)", "(assoc assoc 'a)",
		"(assoc dyn 'a)", "(assoc add (add))", "(assoc add ())", "(assoc (assoc add 'a) 'a)", "(assoc assoc add 'a)", "(assoc dyn show)", "(list assoc add 'a)", "(list dyn show)",
		"(dyn 'a)", "(dyn int)", "(dyn dyn)", "(dyn assoc)", "(dyn add 'a)", "(dyn add sub)", "(dyn add int)", "(dyn (show))", "(dyn ())", "(dyn (dyn show))", "(dyn add ())", "(dyn dyn show)",
		"'", "''", "''a", "'int", "'bool", "'dyn", "'1", "'-", "'a'", "'abcdefghi", "abcdefghi", "assoc", "dyn", "if", "case", "true", "1", "0", "-5", "+", "a.b", "a'", "int'", "1a", "<=",
		"(-5 'a)", "(+ int int)", "(1 int)", "(a.b int)", "(if 'a 'b 'c)", "(case 'a)", "(new int)", "(true 'a)", "(abcdefghi 'a)", "(list abcdefghi)", "(list 'abcdefghi)", "(list (list))", "(list (int 'a))",
		"(pair 'a (list (assoc add)))", "(f 'a int (dyn))", "(list -5)", "(list ')", "(list 'int)",
	} {
		x, ok := impl.ParseSExpr(s)
		if !ok {
			t.Fatalf("%q is not an S-expression", s)
		}
		for _, y := range insideTypes(x) {
			rejectType(t, y)
		}
	}
}

// What has an atom and a list as well is no valid S-expression, although an encoder may give the same atom.
func TestInvalidSExprsDenoteNoType(t *testing.T) {
	a := atom("'a")
	with := func(s string, elements ...impl.SExpr) impl.SExpr { return impl.SExpr{Atom: s, List: elements} }
	for _, x := range []impl.SExpr{
		with("int", a), with("'a", a), with("list", a), with("unit", impl.SExpr{}), with("list", atom("list"), a), with("'a", list()), with("assoc", atom("assoc"), atom("add"), a), with("dyn", atom("dyn"), atom("show")),
		atom("A"), atom("'A"), atom("a b"), atom("(list 'a)"), atom("()"), atom("'a "), atom(" int"), atom("int\n"), atom("\xff"), atom("'\xff"), atom("\u00e9"), atom("a_b"), atom("abcdefghijklm"), atom("'" + strings.Repeat("a", 1000000)),
		list(with("list", a), a), list(with("assoc", a), atom("add"), a), list(atom("assoc"), with("add", a), a), list(with("dyn", a), atom("show")), list(atom("dyn"), with("show", a)), list(atom("List"), a), list(atom(""), a),
		list(atom("assoc"), atom("Add"), a), list(atom("dyn"), atom("Show")), nest(a, 15), wide(a, 900), list(atom("f"), wide(atom("list"), 898)), list(with("", a), a), list(atom("list"), with("int", a)),
	} {
		for _, y := range insideTypes(x) {
			rejectType(t, y)
		}
	}
	// An empty list beside an atom makes no difference.
	none := []impl.SExpr{}
	x := impl.SExpr{List: []impl.SExpr{{Atom: "pair", List: none}, {Atom: "'a", List: none}, {List: []impl.SExpr{{Atom: "dyn", List: none}, {Atom: "show", List: none}}}}}
	checkDecoded(t, x, true, constructor("pair", variable("a"), dyn("show")))
	checkDecoded(t, impl.SExpr{Atom: "int", List: none}, true, constructor("int"))
	rejectType(t, impl.SExpr{List: none})
}

func TestTextsThatDenoteNoType(t *testing.T) {
	for _, s := range []string{
		"", " ", "\n", " \n ", "(", ")", "((", "(list", "(list 'a", "list 'a", "list 'a)", "(list 'a))", "((list 'a)", "int int", "int bool", "'a 'b", "(list 'a)(list 'a)", "(dyn show) int",
		"()", "( )", "(\n)", "' a", "(list ' a)", "Int", "'A", "(List 'a)", "(list 'A)", "(list\t'a)", "\tint", "int\t", "int\r\n", "(list,'a)", "[list 'a]", "(list \"a\")", "int\x00", "(list \u00e9)", "\xff",
		"(list\u00a0'a)", "abcdefghijklm", "(dyn show", "dyn show", "assoc add 'a", "(assoc add 'a", "(f int int int int)", strings.Repeat("(", 1000000), "(list " + strings.Repeat("'a ", 1000000) + ")",
		"(list" + strings.Repeat(" (list", 14) + " 'a" + strings.Repeat(")", 15), strings.Repeat("'", 1000000),
	} {
		rejectTypeText(t, s)
	}
}

func TestTypeTextWithWhiteSpace(t *testing.T) {
	for s, want := range map[string]string{
		" int": "int", "bool\n": "bool", "\n 'a \n": "'a", "( list 'a )": "(list 'a)", "(list\n'a)": "(list 'a)", " ( list\nint )": "(list int)", "(dyn\n\n show )": "(dyn show)",
		"(assoc   add(list 'a))": "(assoc add (list 'a))", "(pair(dyn show)(list'a))": "", "(pair(dyn show)(list 'a))": "(pair (dyn show) (list 'a))", "(pair 'a(f)int)": "",
		strings.Repeat(" \n", 100000) + "(list" + strings.Repeat("\n ", 100000) + "'a)": "(list 'a)",
	} {
		if want == "" {
			rejectTypeText(t, s)
			continue
		}
		if x, ok := impl.ParseType(s); !ok || impl.FormatType(x) != want {
			t.Errorf("ParseType(%.60q) = %v, %v", s, x, ok)
		}
	}
}

func TestRandomTypeSyntax(t *testing.T) {
	random := rand.New(rand.NewSource(5))
	valid, denoting := 0, 0
	for i := range 20000 {
		x := randomType(random, random.Intn(8), i%2 == 0)
		checkTypeSyntax(t, x)
		if !validByDefinition(x) {
			continue
		}
		valid++
		changed := changedSExpr(random, encodingByDefinition(x))
		y, ok := impl.SExprToType(changed)
		if !ok {
			rejectType(t, changed)
			continue
		}
		denoting++
		if !validByDefinition(y) || !sameSExpr(encodingByDefinition(y), changed) {
			t.Errorf("SExprToType(%v) = %v", changed, y)
		}
	}
	if valid < 5000 || denoting < 500 || denoting > valid-500 {
		t.Errorf("%d types are valid, and %d of their encodings still denote one when they are changed", valid, denoting)
	}
}

// changedSExpr returns a copy of x that is changed at one place.
func changedSExpr(random *rand.Rand, x impl.SExpr) impl.SExpr {
	x = copySExpr(x)
	cells := append(sexprCells(x), &x)
	cell := cells[random.Intn(len(cells))]
	atoms := []string{"a", "'a", "int", "bool", "assoc", "dyn", "'", "-5", "case"}
	other := atom(atoms[random.Intn(len(atoms))])
	at := random.Intn(len(cell.List) + 1)
	switch random.Intn(5) {
	case 0:
		*cell = other
	case 1:
		*cell = list(copySExpr(*cell))
	case 2:
		*cell = list(atom("f"), copySExpr(*cell), other)
	case 3:
		cell.List = slices.Insert(cell.List, at, other)
	case 4:
		cell.List = slices.Delete(cell.List, max(at-1, 0), at)
	}
	return x
}

// sexprCells returns the address of every element in x, those in unused capacity included.
func sexprCells(x impl.SExpr) []*impl.SExpr {
	var cells []*impl.SExpr
	whole := x.List[:cap(x.List)]
	for i := range whole {
		cells = append(cells, &whole[i])
		cells = append(cells, sexprCells(whole[i])...)
	}
	return cells
}

// typeCells returns the address of every argument in t, those in unused capacity included.
func typeCells(t impl.Type) []*impl.Type {
	var cells []*impl.Type
	whole := t.Args[:cap(t.Args)]
	for i := range whole {
		cells = append(cells, &whole[i])
		cells = append(cells, typeCells(whole[i])...)
	}
	return cells
}

func allDifferent[T comparable](list []T) bool {
	seen := map[T]bool{}
	for _, x := range list {
		if seen[x] {
			return false
		}
		seen[x] = true
	}
	return true
}

// Arguments whose own parts share memory, so that a result that takes over some of them shares it too.
func TestTypeSyntaxReturnsNewMemory(t *testing.T) {
	shared := []impl.Type{variable("a"), projection("add", variable("b"))}
	x := constructor("f", constructor("pair", shared...), constructor("pair", shared...), constructor("unit"))
	first, second := impl.TypeToSExpr(x), impl.TypeToSExpr(x)
	if !allDifferent(append(sexprCells(first), sexprCells(second)...)) {
		t.Error("the results of TypeToSExpr share memory")
	}
	part := list(atom("pair"), atom("'a"), list(atom("assoc"), atom("add"), atom("'b")))
	text := "(f " + impl.FormatSExpr(part) + " " + impl.FormatSExpr(part) + " (list unit))"
	s := list(atom("f"), part, part, list(atom("list"), atom("unit")))
	var cells []*impl.Type
	for range 2 {
		one, _ := impl.SExprToType(s)
		two, _ := impl.ParseType(text)
		if impl.FormatType(one) != text || impl.FormatType(two) != text {
			t.Errorf("SExprToType or ParseType is wrong on %s", text)
		}
		cells = append(append(cells, typeCells(one)...), typeCells(two)...)
	}
	if !allDifferent(cells) {
		t.Error("the results of SExprToType and ParseType share memory")
	}
	shared[0], part.List[1] = variable("changed"), atom("changed")
	if got := impl.FormatSExpr(first); got != "(f (pair 'a (assoc add 'b)) (pair 'a (assoc add 'b)) unit)" {
		t.Errorf("a result of TypeToSExpr shares memory with its argument: %s", got)
	}
}

func TestTypeSyntaxLeavesItsArguments(t *testing.T) {
	x, slots := typesWithRoom()
	defer unchanged(t, slots)()
	const text = "(f (pair 'b (assoc add 'a)) unit 'b)"
	if got := impl.FormatType(x); got != text || impl.FormatSExpr(impl.TypeToSExpr(x)) != text {
		t.Errorf("FormatType or TypeToSExpr is wrong on a type with spare capacity: %q", got)
	}
	spare := atom("spare")
	inner := []impl.SExpr{atom("assoc"), atom("add"), atom("'a"), spare, spare}
	whole := []impl.SExpr{atom("pair"), {List: inner[:3]}, {Atom: "unit", List: inner[3:3]}, spare, spare}
	beforeWhole, beforeInner := copySExpr(list(whole...)), copySExpr(list(inner...))
	if y, ok := impl.SExprToType(impl.SExpr{List: whole[:3]}); !ok || !sameType(y, constructor("pair", projection("add", variable("a")), constructor("unit"))) {
		t.Errorf("SExprToType is wrong on a list with spare capacity: %v, %v", y, ok)
	}
	if !reflect.DeepEqual(copySExpr(list(whole...)), beforeWhole) || !reflect.DeepEqual(copySExpr(list(inner...)), beforeInner) {
		t.Error("SExprToType changed its argument")
	}
}

// Only functions that stop at a limit come to an end on these, or do so without exhausting the stack.
func TestTypeSyntaxWithoutBounds(t *testing.T) {
	const depth = 1000000
	doubled, loop := variable("a"), make([]impl.Type, 1)
	for range 100 {
		doubled = constructor("pair", doubled, doubled)
	}
	loop[0] = impl.Type{Kind: impl.TypeProjection, Name: "add", Args: loop}
	for i, x := range []impl.Type{doubled, loop[0], nestType(variable("a"), depth), typeWith(2, "f", depth, variable("a"))} {
		if got := impl.TypeToSExpr(x); !sameSExpr(got, impl.SExpr{}) || impl.FormatType(x) != "" {
			t.Errorf("type %d has an encoding or a text", i)
		}
	}
	pairs, ring := atom("'a"), make([]impl.SExpr, 2)
	for range 100 {
		pairs = list(atom("pair"), pairs, pairs)
	}
	ring[0], ring[1] = atom("list"), impl.SExpr{List: ring}
	for i, x := range []impl.SExpr{pairs, ring[1], nest(atom("'a"), depth), wide(atom("f"), depth)} {
		if got, ok := impl.SExprToType(x); ok || !sameType(got, impl.Type{}) {
			t.Errorf("SExprToType accepts expression %d", i)
		}
	}
}
