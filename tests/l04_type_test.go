package tests

import (
	"math"
	"math/rand"
	"reflect"
	"slices"
	"strconv"
	"testing"

	"loop.example/g00508/impl"
)

func variable(name string) impl.Type { return impl.Type{Kind: impl.TypeVar, Name: name} }

func constructor(name string, args ...impl.Type) impl.Type {
	return impl.Type{Kind: impl.TypeConstructor, Name: name, Args: args}
}

func projection(trait string, args ...impl.Type) impl.Type {
	return impl.Type{Kind: impl.TypeProjection, Name: trait, Args: args}
}

func dyn(trait string) impl.Type { return impl.Type{Kind: impl.TypeDyn, Name: trait} }

// typeWith returns a type with count arguments, all of them arg.
func typeWith(kind int, name string, count int, arg impl.Type) impl.Type {
	return impl.Type{Kind: kind, Name: name, Args: slices.Repeat([]impl.Type{arg}, count)}
}

// nestType puts t into depth constructors.
func nestType(t impl.Type, depth int) impl.Type {
	for range depth {
		t = constructor("list", t)
	}
	return t
}

// typeOfSize returns a valid type but for the limits, as flat as its size permits.
func typeOfSize(size int) impl.Type {
	t := constructor("f")
	rest := size - 1
	for places := 3; places > 0 && rest > 0; places-- {
		part := (rest + places - 1) / places
		t.Args = append(t.Args, typeOfSize(part))
		rest -= part
	}
	return t
}

// copyType copies t so that the two share no memory; no arguments are nil in the copy.
func copyType(t impl.Type) impl.Type {
	out := impl.Type{Kind: t.Kind, Name: t.Name}
	for _, arg := range t.Args {
		out.Args = append(out.Args, copyType(arg))
	}
	return out
}

func sizeByDefinition(t impl.Type) int {
	size := 1
	for _, arg := range t.Args {
		size += sizeByDefinition(arg)
	}
	return size
}

func depthByDefinition(t impl.Type) int {
	depth := 0
	for _, arg := range t.Args {
		depth = max(depth, 1+depthByDefinition(arg))
	}
	return depth
}

// variablesByDefinition returns the name of every occurrence of a variable, in pre-order.
func variablesByDefinition(t impl.Type) []string {
	var names []string
	if t.Kind == 1 {
		names = append(names, t.Name)
	}
	for _, arg := range t.Args {
		names = append(names, variablesByDefinition(arg)...)
	}
	return names
}

func hasProjectionByDefinition(t impl.Type) bool {
	return t.Kind == 3 || slices.ContainsFunc(t.Args, hasProjectionByDefinition)
}

// validByDefinition takes the rules of names and limits as the document states them, not from the program.
func validByDefinition(t impl.Type) bool {
	return sizeByDefinition(t) <= 60 && depthByDefinition(t) <= 6 && rulesByDefinition(t)
}

func rulesByDefinition(t impl.Type) bool {
	name := namePattern.MatchString(t.Name) && !slices.Contains(keywords, t.Name)
	count := len(t.Args)
	rule := map[int]bool{
		1: name && count == 0,
		2: name && count <= 3 || (t.Name == "int" || t.Name == "bool") && count == 0,
		3: name && count == 1,
		4: name && count == 0,
	}
	return rule[t.Kind] && !slices.ContainsFunc(t.Args, func(arg impl.Type) bool { return !rulesByDefinition(arg) })
}

// checkType compares every answer about t with its definition.
func checkType(t *testing.T, x impl.Type) {
	t.Helper()
	if got, want := impl.TypeSize(x), sizeByDefinition(x); got != want {
		t.Errorf("TypeSize(%.200v) = %d, want %d", x, got, want)
	}
	if got, want := impl.TypeDepth(x), depthByDefinition(x); got != want {
		t.Errorf("TypeDepth(%.200v) = %d, want %d", x, got, want)
	}
	if got, want := impl.IsValidType(x), validByDefinition(x); got != want {
		t.Errorf("IsValidType(%.200v) = %v", x, got)
	}
	if got, want := impl.HasProjection(x), hasProjectionByDefinition(x); got != want {
		t.Errorf("HasProjection(%.200v) = %v", x, got)
	}
	names := variablesByDefinition(x)
	if got, want := impl.TypeVariables(x), unionByDefinition(names, nil); !slices.Equal(got, want) {
		t.Errorf("TypeVariables(%.200v) = %q, want %q", x, got, want)
	}
	for _, v := range append(names, "", "a", "int", "absent") {
		want := 0
		for _, name := range names {
			if name == v {
				want++
			}
		}
		if got := impl.CountTypeVariable(x, v); got != want {
			t.Errorf("CountTypeVariable(%.200v, %q) = %d, want %d", x, v, got, want)
		}
	}
	if !impl.EqualType(x, copyType(x)) {
		t.Errorf("EqualType is false of %.200v and its copy", x)
	}
}

// typesOfSize returns every type of the given size over five kinds and the given names, whether valid or not.
func typesOfSize(names []string, size int) []impl.Type {
	var all []impl.Type
	for _, args := range typeListsOfSize(names, size-1) {
		for kind := range 5 {
			for _, name := range names {
				all = append(all, impl.Type{Kind: kind, Name: name, Args: args})
			}
		}
	}
	return all
}

func typeListsOfSize(names []string, size int) [][]impl.Type {
	if size == 0 {
		return [][]impl.Type{nil}
	}
	var all [][]impl.Type
	for first := 1; first <= size; first++ {
		for _, x := range typesOfSize(names, first) {
			for _, rest := range typeListsOfSize(names, size-first) {
				all = append(all, append([]impl.Type{x}, rest...))
			}
		}
	}
	return all
}

func TestEverySmallType(t *testing.T) {
	for size := 1; size <= 3; size++ {
		for _, x := range typesOfSize([]string{"a", "b", "int"}, size) {
			checkType(t, x)
			checkType(t, constructor("pair", variable("b"), x))
		}
	}
	for _, x := range typesOfSize([]string{"a"}, 4) {
		checkType(t, x)
	}
	for _, x := range typesOfSize([]string{"a"}, 5) {
		checkType(t, x)
	}
}

// validTypes returns types of every kind, with each number of arguments that the kind permits.
func validTypes() []impl.Type {
	a, n := variable("a"), constructor("int")
	return []impl.Type{
		a, variable("v0"), variable("abcdefgh"), variable("self"), variable("list"), n, constructor("bool"), constructor("unit"), constructor("a"),
		{Kind: impl.TypeVar, Name: "a", Args: []impl.Type{}}, {Kind: impl.TypeConstructor, Name: "int", Args: []impl.Type{}},
		{Kind: impl.TypeConstructor, Name: "bool", Args: []impl.Type{}}, {Kind: impl.TypeConstructor, Name: "unit", Args: []impl.Type{}},
		{Kind: impl.TypeDyn, Name: "show", Args: []impl.Type{}}, dyn("show"), dyn("a"), projection("add", a), projection("add", n),
		projection("add", projection("add", a)), projection("add", dyn("show")), projection("add", constructor("list", a)),
		constructor("list", a), constructor("pair", a, n), constructor("f", a, n, a), constructor("f", n, n, n), constructor("list", dyn("show")),
		constructor("pair", variable("a"), projection("add", variable("a"))), constructor("list", constructor("list", projection("add", a))),
		constructor("inta", a), constructor("boo"), variable("bools"),
	}
}

// invalidTypes returns types that are within the limits and break the rule of their kind.
func invalidTypes() []impl.Type {
	a, n := variable("a"), constructor("int")
	return []impl.Type{
		{}, {Name: "a"}, {Kind: 5, Name: "a"}, {Kind: -1, Name: "a"}, {Kind: 5, Name: "int"}, {Kind: math.MinInt, Name: "a"}, {Kind: math.MaxInt, Name: "a"},
		{Kind: 1}, {Kind: 2}, {Kind: 3}, {Kind: 4}, {Kind: 0, Name: "list", Args: []impl.Type{a}}, {Kind: 5, Name: "add", Args: []impl.Type{a}},
		variable("int"), variable("bool"), variable("assoc"), variable("'a"), variable("abcdefghi"), variable("A"), variable("1a"),
		typeWith(1, "a", 1, n), typeWith(1, "a", 3, a), typeWith(1, "int", 1, n),
		constructor("dyn"), constructor("assoc"), constructor("assoc", a), constructor("abcdefghi"), constructor("List", a), constructor("x y"),
		constructor("int", n), constructor("bool", n), constructor("int", a, a, a), constructor("bool", a, a, a, a),
		constructor("f", n, n, n, n), typeWith(2, "f", 5, a), typeWith(2, "f", 59, a), constructor("", a),
		projection("add"), projection("add", a, a), projection("add", a, a, a), {Kind: 3, Name: "add", Args: []impl.Type{}},
		projection("int", a), projection("bool", a), projection("case", a), projection("", a), projection("int"),
		dyn("int"), dyn("bool"), dyn("dyn"), dyn("abcdefghi"), typeWith(4, "show", 1, a), typeWith(4, "show", 3, n),
	}
}

func TestValidAndInvalidTypes(t *testing.T) {
	for _, x := range validTypes() {
		if !impl.IsValidType(x) {
			t.Errorf("IsValidType(%v) = false", x)
		}
		checkType(t, x)
	}
	for _, x := range invalidTypes() {
		for _, y := range insideValidTypes(x) {
			if impl.IsValidType(y) {
				t.Errorf("IsValidType(%v) = true", y)
			}
			checkType(t, y)
		}
	}
}

// insideValidTypes returns x and types that are valid but for x, which stands in them at different places and depths.
func insideValidTypes(x impl.Type) []impl.Type {
	a, n := variable("a"), constructor("int")
	return []impl.Type{
		x, constructor("list", x), projection("add", x),
		constructor("f", x, a, n), constructor("f", a, x, n), constructor("f", a, n, x),
		constructor("f", projection("add", a), projection("add", constructor("pair", n, x)), dyn("show")),
		constructor("list", constructor("list", constructor("pair", x, constructor("pair", a, a)))),
	}
}

func TestEveryKindNameAndNumberOfArguments(t *testing.T) {
	names := append(slices.Clone(keywords), "", "a", "z9", "a1b2c3d4", "abcdefgh", "abcdefghi", "9", "1a", "A", "aB", "a b", "a ", " a", "'a", "a.", "-", "<",
		"\x00", "a\n", "\xff", "\u00e9", "a\u0161", "intt", "in", "nt", "Int", "bool1", "boo", "list", "self", "v0")
	arg := constructor("list", variable("b"))
	for _, kind := range []int{-7, -1, 0, 1, 2, 3, 4, 5, 6, 1 + 1<<32, 2 + 1<<8, math.MinInt, math.MaxInt} {
		for _, name := range names {
			for count := range 6 {
				checkType(t, typeWith(kind, name, count, arg))
			}
		}
	}
}

func TestTypeSizeAndDepth(t *testing.T) {
	a, n := variable("a"), constructor("int")
	cases := []struct {
		x           impl.Type
		size, depth int
	}{
		{a, 1, 0}, {n, 1, 0}, {constructor("unit"), 1, 0}, {dyn("show"), 1, 0}, {impl.Type{}, 1, 0}, {projection("add", a), 2, 1}, {constructor("list", a), 2, 1},
		{constructor("pair", a, projection("add", a)), 4, 2}, {constructor("f", n, n, n), 4, 1}, {constructor("f", constructor("list", n), n, n), 5, 2},
		{constructor("pair", constructor("list", constructor("list", a)), constructor("list", a)), 6, 3},
		{constructor("pair", a, constructor("pair", a, constructor("pair", a, a))), 7, 3},
		{nestType(n, 6), 7, 6}, {nestType(n, 7), 8, 7}, {typeWith(2, "f", 100, a), 101, 1}, {typeWith(1, "a", 2, n), 3, 1}, {typeWith(4, "show", 1, typeWith(0, "", 1, impl.Type{})), 3, 2},
		{impl.Type{Args: []impl.Type{}}, 1, 0}, {constructor("pair", impl.Type{}, impl.Type{}), 3, 1}, {typeOfSize(60), 60, 4},
	}
	for _, c := range cases {
		if got := impl.TypeSize(c.x); got != c.size {
			t.Errorf("TypeSize(%v) = %d, want %d", c.x, got, c.size)
		}
		if got := impl.TypeDepth(c.x); got != c.depth {
			t.Errorf("TypeDepth(%v) = %d, want %d", c.x, got, c.depth)
		}
	}
}

func TestTypeDepthLimit(t *testing.T) {
	if impl.MaxTypeDepth != 6 || impl.MaxTypeSize != 60 {
		t.Errorf("the limits are %d and %d", impl.MaxTypeDepth, impl.MaxTypeSize)
	}
	a := variable("a")
	for _, leaf := range []impl.Type{a, constructor("int"), constructor("unit"), dyn("show")} {
		for depth := range 12 {
			x := nestType(leaf, depth)
			for _, y := range []impl.Type{x, constructor("f", x, a, a), constructor("f", a, x, a), constructor("f", a, a, x), projection("add", x)} {
				if got, want := impl.IsValidType(y), depthByDefinition(y) <= 6; got != want {
					t.Errorf("IsValidType(%v) = %v", y, got)
				}
				checkType(t, y)
			}
		}
	}
	deep := a
	for range 6 {
		deep = projection("add", deep)
	}
	if !impl.IsValidType(deep) || impl.IsValidType(projection("add", deep)) || impl.IsValidType(constructor("list", deep)) {
		t.Error("IsValidType is wrong on nested projections")
	}
}

func TestTypeSizeLimit(t *testing.T) {
	a := variable("a")
	for size := 1; size <= 130; size++ {
		x := typeOfSize(size)
		if impl.TypeSize(x) != size {
			t.Errorf("TypeSize = %d of a type of size %d", impl.TypeSize(x), size)
		}
		if got := impl.IsValidType(x); got != (size <= 60) {
			t.Errorf("IsValidType = %v of a type of size %d", got, size)
		}
		checkType(t, x)
		// The same size, with what is deep in front of the rest and behind it.
		for _, y := range []impl.Type{constructor("pair", nestType(a, 5), x), constructor("pair", x, nestType(a, 5))} {
			if got := impl.IsValidType(y); got != (size+7 <= 60) {
				t.Errorf("IsValidType = %v of a type of size %d", got, size+7)
			}
		}
		if impl.IsValidType(constructor("pair", nestType(a, 6), x)) || impl.IsValidType(constructor("pair", x, nestType(a, 6))) {
			t.Errorf("IsValidType accepts a type of depth 7 with a part of size %d", size)
		}
	}
	// The document limits the arguments of each constructor, not of all together.
	if !impl.IsValidType(typeWith(2, "f", 3, typeWith(2, "f", 3, typeWith(2, "f", 3, a)))) || impl.IsValidType(typeWith(2, "f", 3, typeWith(2, "f", 3, typeWith(2, "f", 3, constructor("list", a))))) {
		t.Error("IsValidType is wrong on a type of size 40 or 67")
	}
}

func TestTypeVariables(t *testing.T) {
	a, b, c := variable("a"), variable("b"), variable("c")
	cases := []struct {
		x    impl.Type
		want []string
	}{
		{a, []string{"a"}}, {constructor("int"), nil}, {constructor("a"), nil}, {dyn("a"), nil}, {impl.Type{Name: "a"}, nil}, {impl.Type{Kind: 5, Name: "a"}, nil},
		{projection("b", a), []string{"a"}}, {constructor("list", a), []string{"a"}}, {constructor("a", b), []string{"b"}},
		{constructor("pair", b, a), []string{"b", "a"}}, {constructor("f", b, a, b), []string{"b", "a"}}, {constructor("f", c, b, a), []string{"c", "b", "a"}},
		{constructor("pair", constructor("pair", c, a), constructor("pair", b, c)), []string{"c", "a", "b"}},
		{constructor("pair", constructor("list", constructor("list", c)), a), []string{"c", "a"}}, {constructor("pair", a, constructor("list", constructor("list", c))), []string{"a", "c"}},
		{constructor("pair", projection("add", b), projection("add", constructor("pair", a, b))), []string{"b", "a"}},
		{impl.Type{Kind: 1, Name: "b", Args: []impl.Type{a, b, c}}, []string{"b", "a", "c"}}, {impl.Type{Kind: 0, Args: []impl.Type{c, a}}, []string{"c", "a"}},
		{impl.Type{Kind: 4, Name: "b", Args: []impl.Type{a}}, []string{"a"}}, {projection("b", c, a), []string{"c", "a"}}, {constructor("int", a), []string{"a"}},
		{variable(""), []string{""}}, {constructor("f", variable("int"), variable("A"), variable("")), []string{"int", "A", ""}},
		{constructor("f", a, variable("a "), variable("A")), []string{"a", "a ", "A"}}, {typeWith(2, "f", 100, constructor("pair", b, a)), []string{"b", "a"}},
	}
	for _, test := range cases {
		if got := impl.TypeVariables(test.x); !slices.Equal(got, test.want) {
			t.Errorf("TypeVariables(%v) = %q, want %q", test.x, got, test.want)
		}
		checkType(t, test.x)
	}
	var many impl.Type
	var names []string
	for i := range 500 {
		names = append(names, "n"+strconv.Itoa(i*7919%500))
		many.Args = append(many.Args, constructor("list", variable(names[i])))
	}
	if got := impl.TypeVariables(constructor("pair", many, many)); !slices.Equal(got, names) {
		t.Errorf("TypeVariables is wrong on many variables: %q", got)
	}
}

func TestCountTypeVariable(t *testing.T) {
	a, b := variable("a"), variable("b")
	cases := []struct {
		x    impl.Type
		v    string
		want int
	}{
		{a, "a", 1}, {a, "b", 0}, {a, "", 0}, {a, "aa", 0}, {variable("aa"), "a", 0}, {constructor("a"), "a", 0}, {dyn("a"), "a", 0}, {projection("a", b), "a", 0}, {impl.Type{Name: "a"}, "a", 0},
		{constructor("a", a), "a", 1}, {constructor("pair", a, a), "a", 2}, {constructor("pair", a, projection("add", a)), "a", 2}, {constructor("f", a, b, a), "b", 1},
		{constructor("f", constructor("pair", a, b), projection("add", constructor("pair", b, a)), a), "a", 3}, {typeWith(2, "f", 1000, constructor("pair", a, b)), "b", 1000},
		{typeWith(1, "a", 2, a), "a", 3}, {typeWith(4, "a", 2, a), "a", 2}, {typeWith(0, "a", 2, a), "a", 2}, {variable(""), "", 1}, {constructor("", variable("int")), "int", 1},
		{constructor("int"), "int", 0}, {impl.Type{}, "", 0},
	}
	for _, c := range cases {
		if got := impl.CountTypeVariable(c.x, c.v); got != c.want {
			t.Errorf("CountTypeVariable(%v, %q) = %d, want %d", c.x, c.v, got, c.want)
		}
	}
}

func TestHasProjection(t *testing.T) {
	a, p := variable("a"), projection("add", variable("a"))
	without := []impl.Type{
		a, constructor("int"), constructor("assoc"), constructor("add", a), dyn("add"), variable("add"), {}, {Kind: 5, Name: "add", Args: []impl.Type{a}}, {Kind: -3, Name: "add", Args: []impl.Type{a}},
		constructor("f", a, constructor("pair", a, a), dyn("show")), typeWith(2, "f", 1000, a), nestType(a, 100), typeWith(1, "a", 1, a),
	}
	for _, x := range without {
		for _, y := range []impl.Type{x, constructor("f", a, x, a), constructor("list", constructor("list", x))} {
			if impl.HasProjection(y) {
				t.Errorf("HasProjection(%v) = true", y)
			}
		}
	}
	for _, x := range []impl.Type{p, projection("add"), projection("add", a, a), projection("", a), projection("int"), {Kind: impl.TypeProjection}} {
		around := append(insideValidTypes(x), typeWith(1, "a", 2, x), typeWith(4, "show", 1, x), typeWith(0, "", 1, x), typeWith(5, "A", 4, x), nestType(x, 100))
		around = append(around, constructor("f", append(slices.Repeat([]impl.Type{a}, 1000), x)...), constructor("f", constructor("pair", constructor("list", a), constructor("list", x)), a))
		for _, y := range around {
			if !impl.HasProjection(y) {
				t.Errorf("HasProjection(%v) = false", y)
			}
		}
	}
}

func TestEqualTypeOfSmallTypes(t *testing.T) {
	var all []impl.Type
	for size := 1; size <= 2; size++ {
		all = append(all, typesOfSize([]string{"a", "b", "int"}, size)...)
	}
	all = append(all, typesOfSize([]string{"a"}, 3)...)
	for i, x := range all {
		for j, y := range all {
			if got := impl.EqualType(x, copyType(y)); got != (i == j) {
				t.Fatalf("EqualType(%v, %v) = %v", x, y, got)
			}
		}
	}
}

func TestEqualType(t *testing.T) {
	a, b, n := variable("a"), variable("b"), constructor("int")
	room := append(make([]impl.Type, 0, 9), a)
	equal := [][2]impl.Type{
		{{}, {Args: []impl.Type{}}}, {n, {Kind: 2, Name: "int", Args: []impl.Type{}}}, {constructor("list", a), {Kind: 2, Name: "list", Args: room}},
		{constructor("list", n), constructor("list", impl.Type{Kind: 2, Name: "int", Args: []impl.Type{}})}, {variable("A B"), variable("A B")},
		{typeWith(9, "", 4, typeWith(1, "a", 2, a)), typeWith(9, "", 4, typeWith(1, "a", 2, a))}, {nestType(a, 100), nestType(a, 100)}, {typeOfSize(100), typeOfSize(100)},
	}
	for i, pair := range equal {
		if !impl.EqualType(pair[0], pair[1]) || !impl.EqualType(pair[1], pair[0]) {
			t.Errorf("EqualType is false for pair %d", i)
		}
	}
	different := [][2]impl.Type{
		{a, b}, {a, constructor("a")}, {a, dyn("a")}, {constructor("a"), dyn("a")}, {a, n}, {{}, a}, {{Kind: 1}, {Kind: 2}}, {{Kind: -1}, {Kind: 1}}, {{Kind: 1}, {Kind: 1 + 1<<32}},
		{constructor("add", a), projection("add", a)}, {constructor("list", a), constructor("list")}, {constructor("list", a), constructor("list", a, a)},
		{constructor("pair", a, b), constructor("pair", b, a)}, {constructor("pair", a, a), constructor("pair", a, b)}, {constructor("list", a), constructor("set", a)},
		{constructor("pair", constructor("list", a), b), constructor("pair", a, constructor("list", b))}, {constructor("f", constructor("f", a), a), constructor("f", constructor("f", a, a))},
		{constructor("f", constructor("list"), constructor("list", a)), constructor("f", constructor("list", a), constructor("list"))},
		{constructor("f", a, a, constructor("list", constructor("list", a))), constructor("f", a, a, constructor("list", constructor("list", b)))},
		{nestType(a, 100), nestType(a, 101)}, {nestType(a, 100), nestType(b, 100)}, {typeOfSize(100), typeOfSize(101)}, {variable("a"), variable("A")}, {variable("a"), variable("a ")},
	}
	for i, pair := range different {
		if impl.EqualType(pair[0], pair[1]) || impl.EqualType(pair[1], pair[0]) {
			t.Errorf("EqualType is true for pair %d", i)
		}
	}
}

// Half of the types are valid but for the limits, so that the limits decide.
func TestRandomTypes(t *testing.T) {
	random := rand.New(rand.NewSource(4))
	valid := 0
	for i := range 20000 {
		x := randomType(random, random.Intn(9), i%2 == 0)
		checkType(t, x)
		if impl.IsValidType(x) {
			valid++
		}
	}
	if valid < 5000 || valid > 15000 {
		t.Errorf("%d of 20000 types are valid", valid)
	}
}

func randomType(random *rand.Rand, depth int, ruled bool) impl.Type {
	name := string(rune('a' + random.Intn(4)))
	if !ruled && random.Intn(30) == 0 {
		return typeWith(random.Intn(6), "bool", random.Intn(3), variable(name))
	}
	if depth == 0 {
		return impl.Type{Kind: []int{1, 2, 4}[random.Intn(3)], Name: name}
	}
	if random.Intn(4) == 0 {
		return projection(name, randomType(random, depth-1, ruled))
	}
	x := constructor(name, randomType(random, depth-1, ruled))
	for range random.Intn(3) {
		x.Args = append(x.Args, randomType(random, random.Intn(depth), ruled))
	}
	return x
}

// These functions have no limits of their own, so that neither depth nor width may exhaust anything.
func TestTypesFarBeyondTheLimits(t *testing.T) {
	const depth, width = 2000000, 300000
	a := variable("a")
	chain := make([]impl.Type, depth+1)
	chain[depth] = projection("add", a)
	for i := depth - 1; i >= 0; i-- {
		chain[i] = impl.Type{Kind: impl.TypeConstructor, Name: "list", Args: chain[i+1 : i+2 : i+2]}
	}
	deep := chain[0]
	checkLargeType(t, deep, depth+2, depth+1, 1)
	if impl.EqualType(deep, constructor("list", deep)) || impl.EqualType(deep, chain[1]) {
		t.Error("EqualType is true of two types of different depth")
	}
	wide := constructor("f", append(slices.Repeat([]impl.Type{a}, width), projection("add", a))...)
	checkLargeType(t, wide, width+3, 2, width+1)
	if impl.EqualType(wide, typeWith(2, "f", width+1, a)) || impl.EqualType(wide, typeWith(2, "f", width, a)) {
		t.Error("EqualType is true of two different types with many arguments")
	}
}

func checkLargeType(t *testing.T, x impl.Type, size, depth, count int) {
	t.Helper()
	if got := impl.TypeSize(x); got != size {
		t.Errorf("TypeSize = %d, want %d", got, size)
	}
	if got := impl.TypeDepth(x); got != depth {
		t.Errorf("TypeDepth = %d, want %d", got, depth)
	}
	if got := impl.CountTypeVariable(x, "a"); got != count {
		t.Errorf("CountTypeVariable = %d, want %d", got, count)
	}
	if got := impl.TypeVariables(x); !slices.Equal(got, []string{"a"}) {
		t.Errorf("TypeVariables = %.40q", got)
	}
	if impl.IsValidType(x) || !impl.HasProjection(x) || !impl.EqualType(x, x) {
		t.Errorf("a wrong answer about a type of size %d and depth %d", size, depth)
	}
}

// Only a check that stops at a limit comes to an end: the size doubles with each level.
func TestTypeWithSharedParts(t *testing.T) {
	x := variable("a")
	for range 100 {
		x = constructor("pair", x, x)
	}
	loop := make([]impl.Type, 1)
	loop[0] = impl.Type{Kind: impl.TypeConstructor, Name: "list", Args: loop}
	around := make([]impl.Type, 3)
	for i := range around {
		around[i] = impl.Type{Kind: impl.TypeConstructor, Name: "f", Args: around}
	}
	broad := variable("a")
	for range 6 {
		broad = typeWith(2, "f", 100, broad)
	}
	for i, y := range []impl.Type{x, loop[0], around[0], broad, constructor("list", loop[0])} {
		if impl.IsValidType(y) {
			t.Errorf("IsValidType = true of type %d", i)
		}
	}
	if impl.EqualType(x, constructor("pair", x, variable("a"))) {
		t.Error("EqualType is true of two types of which one is deeper")
	}
}

// typesWithRoom returns a type whose slices have unused capacity, and these slices.
func typesWithRoom() (impl.Type, [][]impl.Type) {
	spare := constructor("spare", variable("spare"))
	inner := []impl.Type{variable("b"), projection("add", variable("a")), spare, spare}
	empty := []impl.Type{spare, spare}
	whole := []impl.Type{constructor("pair", inner[:2]...), {Kind: 2, Name: "unit", Args: empty[:0]}, variable("b"), spare, spare}
	return impl.Type{Kind: 2, Name: "f", Args: whole[:3]}, [][]impl.Type{whole, inner, empty}
}

// unchanged returns a function that reports what has changed in the slots since.
func unchanged(t *testing.T, slots [][]impl.Type) func() {
	before := make([][]impl.Type, len(slots))
	for i, slot := range slots {
		before[i] = copyType(impl.Type{Args: slot}).Args
	}
	return func() {
		t.Helper()
		for i, slot := range slots {
			if !reflect.DeepEqual(copyType(impl.Type{Args: slot}).Args, before[i]) {
				t.Errorf("a function changed its argument: %v", slot)
			}
		}
	}
}

func TestTypeFunctionsLeaveTheirArguments(t *testing.T) {
	x, slots := typesWithRoom()
	y, others := typesWithRoom()
	defer unchanged(t, append(slots, others...))()
	if !impl.IsValidType(x) || impl.TypeSize(x) != 7 || impl.TypeDepth(x) != 3 || !impl.HasProjection(x) || !impl.EqualType(x, y) || impl.EqualType(y, constructor("f", x, x, x)) {
		t.Error("a function is wrong on a type with spare capacity")
	}
	if got := impl.TypeVariables(x); !slices.Equal(got, []string{"b", "a"}) || impl.CountTypeVariable(x, "b") != 2 || impl.CountTypeVariable(x, "spare") != 0 {
		t.Errorf("TypeVariables or CountTypeVariable is wrong on a type with spare capacity: %q", got)
	}
}

func TestTypeVariablesReturnsNewMemory(t *testing.T) {
	x := constructor("f", variable("b"), constructor("list", variable("a")), variable("b"))
	first, second := impl.TypeVariables(x), impl.TypeVariables(x)
	for i := range first[:cap(first)] {
		first[:cap(first)][i] = "changed"
	}
	if third := impl.TypeVariables(x); !slices.Equal(third, []string{"b", "a"}) || !slices.Equal(second, third) {
		t.Errorf("a result of TypeVariables shares memory with another: %q, %q", second, third)
	}
	x.Args[0].Name, x.Args[1].Args[0] = "changed", variable("changed")
	if !slices.Equal(second, []string{"b", "a"}) {
		t.Errorf("a result of TypeVariables shares memory with its argument: %q", second)
	}
}
