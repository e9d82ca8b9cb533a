package tests

import (
	"math/rand"
	"slices"
	"strconv"
	"testing"

	"loop.example/g00508/impl"
)

// atLeastByDefinition takes b for the pattern.
func atLeastByDefinition(a, b impl.Type) bool {
	_, ok := matchByPlaces([]impl.Type{b}, []impl.Type{a})
	return ok
}

func headNameByDefinition(x impl.Type) string { return map[int]string{2: x.Name, 4: "dyn"}[x.Kind] }

// typeNamesByDefinition returns the name of every occurrence, in pre-order.
func typeNamesByDefinition(x impl.Type) []string {
	var names []string
	if x.Kind == 4 || x.Kind == 2 && x.Name != "int" && x.Name != "bool" {
		names = append(names, x.Name)
	}
	for _, arg := range x.Args {
		names = append(names, typeNamesByDefinition(arg)...)
	}
	return names
}

func groundByDefinition(x impl.Type) bool {
	return x.Kind != 1 && x.Kind != 3 && !slices.ContainsFunc(x.Args, func(arg impl.Type) bool { return !groundByDefinition(arg) })
}

// checkNames compares every answer about x alone with its definition.
func checkNames(t *testing.T, x impl.Type) {
	t.Helper()
	if got, want := impl.HeadName(x), headNameByDefinition(x); got != want {
		t.Errorf("HeadName(%s) = %q, want %q", brief(x), got, want)
	}
	if got, want := impl.TypeNames(x), unionByDefinition(typeNamesByDefinition(x), nil); !slices.Equal(got, want) {
		t.Errorf("TypeNames(%s) = %q, want %q", brief(x), got, want)
	}
	if got, want := impl.IsGround(x), groundByDefinition(x); got != want {
		t.Errorf("IsGround(%s) = %v", brief(x), got)
	}
}

// How a type relates to another one: it is more or less specific, they match each other, or neither matches the other.
const (
	more         = ">"
	less         = "<"
	same         = "="
	incomparable = "|"
)

func relationOf(there, back bool) string {
	return map[[2]bool]string{{true, false}: more, {false, true}: less, {true, true}: same, {false, false}: incomparable}[[2]bool{there, back}]
}

// answered returns what the four answers about two types say, if they agree with one another.
func answered(a, b impl.Type) string {
	relation := relationOf(impl.AtLeastAsSpecific(a, b), impl.AtLeastAsSpecific(b, a))
	if there, back := impl.MoreSpecific(a, b), impl.MoreSpecific(b, a); there != (relation == more) || back != (relation == less) {
		return relation + ", but MoreSpecific says otherwise"
	}
	return relation
}

func checkRelation(t *testing.T, a, b impl.Type, want string) {
	t.Helper()
	if got := answered(a, b); got != want {
		t.Errorf("%s and %s have the relation %s, want %s", brief(a), brief(b), got, want)
	}
}

// checkSpecificity compares the four answers about two types with their definitions, and returns what these say.
func checkSpecificity(t *testing.T, a, b impl.Type) string {
	t.Helper()
	want := relationOf(atLeastByDefinition(a, b), atLeastByDefinition(b, a))
	checkRelation(t, a, b, want)
	return want
}

func TestSpecificityOfTypes(t *testing.T) {
	for _, c := range []struct{ a, relation, b string }{
		// The document's example, and others with one variable.
		{"(list int)", more, "(list 'a)"}, {"(list 'a)", less, "(list int)"}, {"(list bool)", more, "(list 'a)"}, {"(list (dyn a))", more, "(list 'a)"}, {"(list (list 'a))", more, "(list 'a)"}, {"(list (list int))", more, "(list (list 'b))"}, {"(list (assoc add 'a))", more, "(list 'a)"}, {"(list a)", more, "(list 'a)"},
		// A variable is the least specific type.
		{"int", more, "'a"}, {"bool", more, "'a"}, {"unit", more, "'a"}, {"a", more, "'a"}, {"(dyn a)", more, "'a"}, {"(list 'a)", more, "'a"}, {"(list 'a)", more, "'b"}, {"(assoc add 'a)", more, "'a"}, {"(assoc add int)", more, "'b"}, {"(pair 'a 'b)", more, "'c"}, {"'a", same, "'a"}, {"'a", same, "'b"}, {"'self", same, "'v0"},
		// Types without variables are as specific only as themselves.
		{"int", same, "int"}, {"bool", same, "bool"}, {"unit", same, "unit"}, {"(dyn a)", same, "(dyn a)"}, {"(list int)", same, "(list int)"}, {"(assoc add int)", same, "(assoc add int)"}, {"int", incomparable, "bool"}, {"int", incomparable, "unit"}, {"unit", incomparable, "(dyn unit)"}, {"(dyn a)", incomparable, "(dyn b)"}, {"(dyn a)", incomparable, "a"},
		{"(list int)", incomparable, "(list bool)"}, {"(list int)", incomparable, "(box int)"}, {"(list int)", incomparable, "int"}, {"(list int)", incomparable, "list"}, {"(f int)", incomparable, "(f int int)"}, {"(assoc add int)", incomparable, "(assoc sub int)"}, {"(assoc add int)", incomparable, "(add int)"}, {"(f int bool)", incomparable, "(f bool int)"},
		// They are equal up to the names of their variables.
		{"(list 'a)", same, "(list 'a)"}, {"(list 'a)", same, "(list 'b)"}, {"(list 'a)", same, "(list 'c)"}, {"(pair 'a 'b)", same, "(pair 'b 'a)"}, {"(pair 'a 'a)", same, "(pair 'b 'b)"}, {"(assoc add 'a)", same, "(assoc add 'b)"}, {"(f 'a 'b 'c)", same, "(f 'b 'c 'a)"}, {"(f 'a (dyn b) 'a)", same, "(f 'b (dyn b) 'b)"}, {"(pair 'a (list 'b))", same, "(pair 'b (list 'a))"},
		// A variable that occurs more than once.
		{"(pair 'a 'a)", more, "(pair 'a 'b)"}, {"(pair 'b 'b)", more, "(pair 'b 'a)"}, {"(pair int int)", more, "(pair 'a 'a)"}, {"(pair int bool)", incomparable, "(pair 'a 'a)"}, {"(pair int bool)", more, "(pair 'a 'b)"}, {"(pair int int)", more, "(pair 'a 'b)"}, {"(pair (list 'b) (list 'b))", more, "(pair 'a 'a)"}, {"(pair (list 'a) (list 'b))", incomparable, "(pair 'a 'a)"},
		{"(pair 'a (list 'a))", more, "(pair 'a (list 'b))"}, {"(pair 'a (list 'a))", incomparable, "(pair 'a 'a)"}, {"(f 'a 'a 'a)", more, "(f 'a 'b 'a)"}, {"(f 'a 'b 'a)", more, "(f 'a 'b 'c)"}, {"(f 'a 'b 'a)", incomparable, "(f 'a 'a 'b)"}, {"(f 'a 'b 'a)", incomparable, "(f 'a 'b 'b)"}, {"(f 'a 'a 'b)", incomparable, "(f 'a 'b 'b)"}, {"(f int 'a 'a)", incomparable, "(f 'a 'a 'b)"},
		{"(pair (pair 'a 'b) (pair 'a 'b))", more, "(pair (pair 'a 'b) (pair 'c 'd))"}, {"(pair (pair 'a 'b) (pair 'b 'a))", more, "(pair (pair 'a 'b) (pair 'c 'd))"}, {"(pair (pair 'a 'b) (pair 'a 'b))", incomparable, "(pair (pair 'a 'b) (pair 'b 'a))"}, {"(pair (pair 'a 'b) (pair 'a 'b))", more, "(pair 'c 'c)"}, {"(pair (pair 'a 'b) (pair 'b 'a))", incomparable, "(pair 'c 'c)"},
		// Each is more specific at another place.
		{"(pair int 'a)", incomparable, "(pair 'a int)"}, {"(pair int 'a)", incomparable, "(pair 'a bool)"}, {"(pair int 'a)", incomparable, "(pair bool 'a)"}, {"(pair (list 'a) 'b)", incomparable, "(pair 'a (list 'b))"}, {"(pair int 'a)", incomparable, "(pair 'a 'a)"}, {"(f int 'a 'b)", incomparable, "(f 'a int bool)"}, {"(list (pair int 'a))", incomparable, "(list (pair 'a int))"}, {"(assoc add (pair int 'a))", incomparable, "(assoc add (pair 'a int))"},
		{"(pair int 'a)", more, "(pair 'a 'b)"}, {"(pair int int)", more, "(pair int 'a)"}, {"(pair int int)", more, "(pair 'a int)"}, {"(f int bool 'a)", more, "(f int 'a 'b)"}, {"(f int bool 'a)", incomparable, "(f int 'a bool)"},
		// Nothing but a variable stands for other types: not a projection, nor a dyn type.
		{"(assoc add int)", more, "(assoc add 'a)"}, {"(assoc add (assoc add 'a))", more, "(assoc add 'a)"}, {"int", incomparable, "(assoc add int)"}, {"int", incomparable, "(assoc add 'a)"}, {"(list int)", incomparable, "(list (assoc add 'a))"}, {"(assoc add 'a)", incomparable, "(assoc sub 'a)"}, {"(assoc add 'a)", incomparable, "(list 'a)"}, {"int", incomparable, "(dyn show)"}, {"(list int)", incomparable, "(list (dyn show))"}, {"(assoc show 'a)", incomparable, "(dyn show)"},
		// The variables of the two types are different ones, whatever they are called.
		{"(list 'a)", more, "'a"}, {"(list (list 'a))", more, "(list 'a)"}, {"(pair 'b (list 'a))", more, "(pair 'a 'b)"}, {"(pair (list 'b) 'a)", more, "(pair 'a 'b)"}, {"(pair 'b 'b)", more, "(pair 'a 'b)"}, {"(a 'a)", more, "'a"}, {"(a 'b)", same, "(a 'a)"}, {"a", more, "'b"},
		{"(list (list (list (list (list (list int))))))", more, "(list (list (list (list (list (list 'a))))))"}, {"(list (list (list (list (list (list int))))))", incomparable, "(list (list (list (list (list int)))))"}, {"(list (list (list (list (list (list int))))))", more, "(list (list (list (list (list 'a)))))"},
	} {
		a, b := typesIn(t, c.a)[0], typesIn(t, c.b)[0]
		checkRelation(t, a, b, c.relation)
		if got := checkSpecificity(t, a, b); got != c.relation {
			t.Errorf("%s %s %s by definition, want %s", c.a, got, c.b, c.relation)
		}
		checkNames(t, a)
		checkNames(t, b)
	}
}

// checkPreorder wants every pair of the pool to have the answers of the definitions, and all answers together to be those of a preorder.
func checkPreorder(t *testing.T, pool []impl.Type) {
	t.Helper()
	counts := map[string]int{}
	atLeast, strict := make([][]int, len(pool)), make([][]int, len(pool))
	holds := map[[2]int]bool{}
	for i, a := range pool {
		for j, b := range pool {
			counts[checkSpecificity(t, a, b)]++
			if impl.AtLeastAsSpecific(a, b) {
				atLeast[i], holds[[2]int{i, j}] = append(atLeast[i], j), true
			}
			if impl.MoreSpecific(a, b) {
				strict[i] = append(strict[i], j)
			}
			if mutual := impl.AtLeastAsSpecific(a, b) && impl.AtLeastAsSpecific(b, a); mutual != impl.AlphaEquivalent(a, b) {
				t.Errorf("%s and %s are as specific as each other: %v", brief(a), brief(b), mutual)
			}
		}
	}
	for i := range pool {
		if !holds[[2]int{i, i}] || slices.Contains(strict[i], i) {
			t.Errorf("a wrong answer about %s and itself", brief(pool[i]))
		}
		checkTransitive(t, pool, atLeast, i, func(k int) bool { return holds[[2]int{i, k}] })
		checkTransitive(t, pool, strict, i, func(k int) bool { return slices.Contains(strict[i], k) })
	}
	if counts[more] != counts[less] || counts[more] < len(pool) || counts[same] < len(pool) || counts[incomparable] < len(pool) {
		t.Errorf("of the pairs of %d types, the relations are %v", len(pool), counts)
	}
}

// checkTransitive takes the numbers of the types to which each type relates.
func checkTransitive(t *testing.T, pool []impl.Type, related [][]int, i int, relates func(k int) bool) {
	t.Helper()
	for _, j := range related[i] {
		for _, k := range related[j] {
			if !relates(k) {
				t.Errorf("%s relates to %s and that to %s, but not the first to the last", brief(pool[i]), brief(pool[j]), brief(pool[k]))
			}
		}
	}
}

func TestSpecificityIsAPreorder(t *testing.T) {
	triples := func(parts ...string) []impl.Type {
		var all []impl.Type
		for _, list := range allLists(parts, 3) {
			if len(list) == 3 {
				all = append(all, typesIn(t, "(f "+list[0]+" "+list[1]+" "+list[2]+")")...)
			}
		}
		return all
	}
	checkPreorder(t, validTypesOfSize([]string{"a", "b"}, 3))
	checkPreorder(t, validTypesOfSize([]string{"a"}, 4))
	checkPreorder(t, triples("'a", "'b", "'c", "int", "(list 'a)"))
	checkPreorder(t, triples("(g 'a 'b)", "(g 'b 'a)", "(g 'a int)", "'b", "(assoc add 'a)", "(dyn a)"))
	var inside []impl.Type
	for _, x := range typesIn(t, "'a,'b,int,(dyn a),(list 'a),(list int),(pair 'a 'b),(pair 'a 'a),(assoc add 'a)") {
		inside = append(inside, insideValidTypes(x)...)
	}
	checkPreorder(t, inside)
}

// What a substitution makes of a type is at least as specific, and as specific as before only if it is a renaming.
func TestSubstitutionMakesMoreSpecific(t *testing.T) {
	random := rand.New(rand.NewSource(10))
	counts := map[string]int{}
	for i := range 20000 {
		x := randomType(random, random.Intn(5), true)
		var list []impl.Binding
		for _, v := range []string{"a", "b", "c", "d"} {
			list = append(list, bind(v, randomType(random, max(0, random.Intn(4)-2), true)))
		}
		y := applyByDefinition(list, x)
		z := applyByDefinition(list[:i%4], y)
		counts[checkSpecificity(t, y, x)]++
		if !impl.AtLeastAsSpecific(y, x) || !impl.AtLeastAsSpecific(z, y) || !impl.AtLeastAsSpecific(z, x) {
			t.Errorf("%s or %s is not at least as specific as %s", brief(y), brief(z), brief(x))
		}
		if impl.MoreSpecific(y, x) == impl.AlphaEquivalent(y, x) || impl.MoreSpecific(x, y) {
			t.Errorf("MoreSpecific(%s, %s) = %v, and %v the other way round", brief(y), brief(x), impl.MoreSpecific(y, x), impl.MoreSpecific(x, y))
		}
		checkNames(t, y)
		checkSpecificity(t, z, x)
	}
	if counts[more] < 5000 || counts[same] < 1000 {
		t.Errorf("of 20000 types, the relations to what they come from are %v", counts)
	}
}

func TestRandomSpecificity(t *testing.T) {
	random := rand.New(rand.NewSource(100))
	counts := map[string]int{}
	for i := range 40000 {
		a := randomType(random, random.Intn(4), i%2 == 0)
		pair := impl.Type{Args: []impl.Type{copyType(a)}}
		for range random.Intn(4) {
			cells := typeCells(pair)
			*cells[random.Intn(len(cells))] = variable(string(rune('a' + random.Intn(3))))
		}
		b := pair.Args[0]
		if random.Intn(3) == 0 {
			cells := typeCells(impl.Type{Args: []impl.Type{a}})
			*cells[random.Intn(len(cells))] = randomType(random, random.Intn(2), i%2 == 0)
		}
		counts[checkSpecificity(t, a, b)]++
		checkNames(t, a)
		checkNames(t, constructor("pair", b, a))
	}
	for relation, least := range map[string]int{more: 5000, less: 200, same: 5000, incomparable: 2000} {
		if counts[relation] < least {
			t.Errorf("of 40000 pairs, %d have the relation %s", counts[relation], relation)
		}
	}
}

func TestHeadName(t *testing.T) {
	for _, c := range [][2]string{
		{"int", "int"}, {"bool", "bool"}, {"unit", "unit"}, {"a", "a"}, {"abcdefgh", "abcdefgh"}, {"(list int)", "list"}, {"(list 'a)", "list"}, {"(list (box int))", "list"}, {"(pair (dyn show) 'a)", "pair"}, {"(f (assoc add 'a) int bool)", "f"},
		{"(dyn show)", "dyn"}, {"(dyn a)", "dyn"}, {"(dyn list)", "dyn"}, {"'a", ""}, {"'list", ""}, {"'self", ""}, {"(assoc add int)", ""}, {"(assoc list (list int))", ""}, {"(assoc add (dyn show))", ""}, {"(assoc add 'a)", ""},
	} {
		x := typesIn(t, c[0])[0]
		if got := impl.HeadName(x); got != c[1] {
			t.Errorf("HeadName(%s) = %q, want %q", c[0], got, c[1])
		}
		checkNames(t, x)
	}
	// In an invalid type, the kind alone tells what it is.
	for _, c := range []struct {
		x    impl.Type
		want string
	}{
		{impl.Type{}, ""}, {impl.Type{Name: "list"}, ""}, {impl.Type{Kind: 5, Name: "list"}, ""}, {impl.Type{Kind: -2, Name: "list"}, ""}, {impl.Type{Kind: 2 + 1<<32, Name: "list"}, ""}, {typeWith(0, "list", 2, constructor("list")), ""}, {typeWith(1, "list", 1, constructor("list")), ""}, {projection("list"), ""},
		{constructor(""), ""}, {constructor("dyn"), "dyn"}, {constructor("assoc", variable("a")), "assoc"}, {constructor("A b"), "A b"}, {constructor("'a"), "'a"}, {constructor("abcdefghi"), "abcdefghi"}, {constructor("int", variable("a")), "int"}, {typeWith(2, "f", 9, dyn("show")), "f"},
		{dyn(""), "dyn"}, {dyn("int"), "dyn"}, {dyn("A b"), "dyn"}, {typeWith(4, "show", 2, constructor("list")), "dyn"},
	} {
		if got := impl.HeadName(c.x); got != c.want {
			t.Errorf("HeadName(%v) = %q, want %q", c.x, got, c.want)
		}
		checkNames(t, c.x)
	}
}

func TestTypeNames(t *testing.T) {
	for _, c := range []struct {
		x    string
		want []string
	}{
		{"int", nil}, {"bool", nil}, {"'a", nil}, {"'list", nil}, {"(assoc add int)", nil}, {"(assoc add 'list)", nil}, {"(assoc add (assoc sub bool))", nil}, {"unit", []string{"unit"}}, {"a", []string{"a"}}, {"(dyn show)", []string{"show"}}, {"(dyn a)", []string{"a"}},
		{"(list int)", []string{"list"}}, {"(list 'a)", []string{"list"}}, {"(list (dyn show))", []string{"list", "show"}}, {"(assoc add (list int))", []string{"list"}}, {"(assoc add (dyn show))", []string{"show"}}, {"(assoc list (box (assoc show 'a)))", []string{"box"}}, {"(pair int bool)", []string{"pair"}},
		// Pre-order: what is above before what is below, and the first argument before the second.
		{"(pair (list int) (pair (dyn show) 'a))", []string{"pair", "list", "show"}}, {"(f c b a)", []string{"f", "c", "b", "a"}}, {"(f (dyn c) b (dyn a))", []string{"f", "c", "b", "a"}}, {"(list (box (set unit)))", []string{"list", "box", "set", "unit"}}, {"(pair (pair2 d c) (pair1 b a))", []string{"pair", "pair2", "d", "c", "pair1", "b", "a"}},
		{"(pair (list (list c)) a)", []string{"pair", "list", "c", "a"}}, {"(pair a (list (list c)))", []string{"pair", "a", "list", "c"}}, {"(f (assoc z (b a)) (dyn c) b)", []string{"f", "b", "a", "c"}},
		// Each once.
		{"(list list)", []string{"list"}}, {"(list (list (list unit)))", []string{"list", "unit"}}, {"(pair b b)", []string{"pair", "b"}}, {"(f b a b)", []string{"f", "b", "a"}}, {"(f a (dyn a) (a 'a))", []string{"f", "a"}}, {"(f (dyn b) (assoc a (dyn b)) b)", []string{"f", "b"}}, {"(dyn f)", []string{"f"}}, {"(f (dyn f))", []string{"f"}},
		{"(f (pair b a) (pair a b) (pair c b))", []string{"f", "pair", "b", "a", "c"}},
		// Names that only look like those of the built-in types.
		{"(inta boo)", []string{"inta", "boo"}}, {"(pair (in 'int1) bools)", []string{"pair", "in", "bools"}},
	} {
		x, ok := impl.ParseType(c.x)
		if !ok || !slices.Equal(impl.TypeNames(x), c.want) {
			t.Errorf("TypeNames(%s) = %q, want %q", c.x, impl.TypeNames(x), c.want)
		}
		checkNames(t, x)
	}
	for _, c := range []struct {
		x    impl.Type
		want []string
	}{
		// Only a constructor may be one of the two that have no name here: a dyn type has a trait.
		{dyn("int"), []string{"int"}}, {constructor("f", dyn("bool"), constructor("bool"), dyn("int")), []string{"f", "bool", "int"}}, {constructor("int", constructor("a")), []string{"a"}}, {constructor("bool", dyn("a"), constructor("int"), constructor("b")), []string{"a", "b"}}, {constructor("f", constructor("int"), dyn("int")), []string{"f", "int"}},
		// Names that are not valid are names like any other.
		{constructor(""), []string{""}}, {dyn(""), []string{""}}, {constructor("f", constructor(""), dyn(""), constructor("A b"), dyn("abcdefghi")), []string{"f", "", "A b", "abcdefghi"}}, {constructor("Int", constructor("bool ")), []string{"Int", "bool "}}, {constructor("dyn", constructor("assoc")), []string{"dyn", "assoc"}},
		// A kind that is none of the four has no name, but there may be some below it; so may there be below a variable, a dyn type and a projection.
		{impl.Type{}, nil}, {impl.Type{Name: "a"}, nil}, {impl.Type{Kind: 5, Name: "a"}, nil}, {impl.Type{Kind: -2, Name: "a"}, nil}, {impl.Type{Kind: 4 + 1<<32, Name: "a"}, nil}, {typeWith(0, "f", 2, constructor("a")), []string{"a"}}, {typeWith(7, "f", 1, dyn("a")), []string{"a"}},
		{typeWith(1, "f", 2, constructor("a")), []string{"a"}}, {typeWith(4, "f", 1, constructor("a", dyn("b"))), []string{"f", "a", "b"}}, {projection("f", constructor("b"), constructor("a")), []string{"b", "a"}}, {projection("f"), nil}, {typeWith(2, "f", 100, constructor("pair", dyn("b"), constructor("a"))), []string{"f", "pair", "b", "a"}},
	} {
		if got := impl.TypeNames(c.x); !slices.Equal(got, c.want) {
			t.Errorf("TypeNames(%v) = %q, want %q", brief(c.x), got, c.want)
		}
		checkNames(t, c.x)
	}
}

func TestTypeNamesOfManyTypes(t *testing.T) {
	names := []string{"f"}
	x := constructor("f")
	for i := range 500 {
		name := "n" + strconv.Itoa(i*7919%500)
		names = append(names, name)
		if i%2 == 0 {
			x.Args = append(x.Args, constructor(name, variable("a"), dyn(name)))
		} else {
			x.Args = append(x.Args, projection("x", dyn(name)), constructor(name), constructor("int"))
		}
	}
	if got := impl.TypeNames(constructor("f", x, x)); !slices.Equal(got, names) {
		t.Errorf("TypeNames is wrong on many types: %q", got)
	}
	checkNames(t, x)
	widest := widestType(func(i int) string { return "v" + strconv.Itoa(i) })
	for _, y := range []impl.Type{typeOfSize(60), widest, nestType(dyn("a"), 6), nestType(projection("add", constructor("a")), 5)} {
		if !impl.IsValidType(y) {
			t.Errorf("%v is not valid", y)
		}
		checkNames(t, y)
		checkSpecificity(t, y, widest)
	}
}

func TestIsGround(t *testing.T) {
	for _, ground := range []string{"int", "bool", "unit", "a", "(dyn show)", "(dyn a)", "(list int)", "(list (dyn show))", "(pair int (list bool))", "(f a (dyn a) (g int unit bool))", "(list (list (list (list (list (list int))))))", "(assoc1 add int)"} {
		x, ok := impl.ParseType(ground)
		if !ok || !impl.IsGround(x) {
			t.Errorf("IsGround(%s) = false", ground)
		}
		checkNames(t, x)
	}
	for _, open := range []string{"'a", "'int1", "'self", "(assoc add int)", "(assoc add 'a)", "(assoc add (dyn show))", "(list 'a)", "(list (assoc add int))", "(pair 'a int)", "(pair int 'a)", "(f int 'a int)", "(f int int (assoc add int))", "(pair (list int) (list (box (set 'a))))", "(list (list (list (list (list (list 'a))))))", "(pair (assoc add int) (dyn show))"} {
		x, ok := impl.ParseType(open)
		if !ok || impl.IsGround(x) {
			t.Errorf("IsGround(%s) = true", open)
		}
		checkNames(t, x)
	}
	// One variable or projection anywhere is enough, however much there is without any.
	a, n := variable("a"), constructor("int")
	for _, ground := range []impl.Type{{}, {Name: "a"}, {Kind: 5, Name: "a"}, {Kind: -1, Name: "a"}, {Kind: 1 + 1<<32, Name: "a"}, {Kind: 3 + 1<<8, Name: "a"}, constructor(""), dyn("int"), typeWith(4, "show", 2, n), constructor("int", n, n), typeWith(2, "f", 1000, n), typeOfSize(200), nestType(n, 100)} {
		for _, around := range []impl.Type{ground, constructor("list", ground), typeWith(0, "", 2, ground), typeWith(4, "a", 1, ground)} {
			if !impl.IsGround(around) {
				t.Errorf("IsGround(%v) = false", brief(around))
			}
			checkNames(t, around)
		}
		for _, open := range []impl.Type{a, projection("add", n), variable(""), variable("A b"), projection("add"), projection("", n, n), {Kind: impl.TypeVar}, {Kind: impl.TypeProjection}, typeWith(1, "a", 1, ground), typeWith(3, "a", 2, ground)} {
			for _, x := range append(insideValidTypes(open), typeWith(0, "", 2, open), typeWith(4, "show", 1, open), typeWith(9, "A", 4, open), constructor("int", open)) {
				for _, around := range []impl.Type{constructor("pair", ground, x), constructor("pair", x, ground)} {
					if impl.IsGround(around) {
						t.Errorf("IsGround(%v) = true", brief(around))
					}
					checkNames(t, around)
				}
			}
		}
	}
}

func TestSpecificityOfInvalidTypes(t *testing.T) {
	a, b, n := variable("a"), variable("b"), constructor("int")
	withArgs := typeWith(1, "a", 2, b)
	for _, c := range []struct {
		a        impl.Type
		relation string
		b        impl.Type
	}{
		// A kind that is none of the four is compared like a constructor.
		{impl.Type{}, same, impl.Type{}}, {impl.Type{}, same, impl.Type{Args: []impl.Type{}}}, {impl.Type{}, more, a}, {impl.Type{Kind: 5, Name: "a"}, more, a}, {impl.Type{Kind: 5, Name: "a"}, same, impl.Type{Kind: 5, Name: "a"}}, {impl.Type{Kind: 5, Name: "a"}, incomparable, impl.Type{Kind: 5, Name: "b"}}, {impl.Type{Kind: 5, Name: "a"}, incomparable, impl.Type{Kind: 6, Name: "a"}},
		{impl.Type{Name: "a"}, incomparable, constructor("a")}, {impl.Type{Name: "a"}, more, b}, {impl.Type{Kind: 1 + 1<<32, Name: "a"}, more, a}, {typeWith(5, "", 1, n), more, typeWith(5, "", 1, a)}, {typeWith(0, "f", 2, a), more, impl.Type{Name: "f", Args: []impl.Type{a, b}}}, {typeWith(0, "f", 2, a), incomparable, typeWith(0, "f", 1, a)}, {typeWith(-3, "f", 2, a), same, typeWith(-3, "f", 2, b)},
		// A variable that has arguments stands for any type, and as a constant it differs from the same one with others.
		{n, more, withArgs}, {constructor("list", a), more, withArgs}, {a, same, withArgs}, {b, same, withArgs}, {withArgs, same, withArgs}, {withArgs, same, typeWith(1, "a", 1, n)}, {typeWith(1, "b", 3, n), same, withArgs}, {constructor("list", withArgs), same, constructor("list", a)}, {constructor("list", n), more, constructor("list", withArgs)},
		{constructor("pair", withArgs, withArgs), same, constructor("pair", a, a)}, {constructor("pair", withArgs, a), more, constructor("pair", a, b)}, {constructor("pair", withArgs, variable("c")), same, constructor("pair", a, b)}, {constructor("pair", a, a), more, constructor("pair", withArgs, b)}, {constructor("pair", n, n), more, constructor("pair", withArgs, a)}, {constructor("pair", n, constructor("bool")), incomparable, constructor("pair", withArgs, a)},
		// Names that are not valid are names like any other.
		{n, more, variable("")}, {variable(""), same, variable("A b")}, {variable("int"), same, variable("bool")}, {n, more, variable("int")}, {constructor(""), same, constructor("")}, {constructor(""), incomparable, constructor("A")}, {dyn("int"), incomparable, n}, {dyn(""), more, a}, {dyn("A"), incomparable, dyn("a")}, {constructor("dyn", a), incomparable, dyn("a")}, {projection("A", n), more, projection("A", a)},
		{constructor("pair", variable("A"), variable("A")), more, constructor("pair", variable("A"), variable(""))}, {constructor("pair", variable(""), variable("")), same, constructor("pair", a, a)},
		// Numbers of arguments that the kind doesn't permit, and sizes and depths beyond the limits.
		{constructor("int", n), more, constructor("int", a)}, {constructor("int", a), incomparable, n}, {typeWith(4, "show", 1, n), more, typeWith(4, "show", 1, a)}, {typeWith(4, "show", 1, n), incomparable, dyn("show")}, {projection("add", n, n), more, projection("add", a, a)}, {projection("add", n, n), incomparable, projection("add", a)}, {projection("add"), same, projection("add")},
		{typeWith(2, "f", 9, n), more, typeWith(2, "f", 9, a)}, {typeWith(2, "f", 9, n), incomparable, typeWith(2, "f", 8, a)}, {nestType(n, 100), more, nestType(a, 100)}, {nestType(n, 100), more, nestType(a, 99)}, {nestType(n, 99), incomparable, nestType(a, 100)}, {nestType(b, 100), same, nestType(a, 100)}, {typeOfSize(200), same, typeOfSize(200)}, {typeOfSize(200), incomparable, typeOfSize(199)},
	} {
		checkRelation(t, c.a, c.b, c.relation)
		for i, x := range insideValidTypes(c.a) {
			checkSpecificity(t, x, insideValidTypes(c.b)[i])
		}
		checkRelation(t, typeWith(8, "", 1, c.a), typeWith(8, "", 1, c.b), c.relation)
		checkNames(t, constructor("pair", c.a, c.b))
	}
	// No substitution maps this one to itself.
	two := constructor("pair", withArgs, a)
	if impl.AtLeastAsSpecific(two, two) || impl.MoreSpecific(two, two) {
		t.Error("a variable stands for two types at once")
	}
}

// Valid and invalid types in one another.
func TestSpecificityOfAllKinds(t *testing.T) {
	all := append(validTypes(), invalidTypes()...)
	around := insideValidTypes(variable("b"))
	for _, x := range all {
		for _, y := range all {
			checkSpecificity(t, x, y)
			checkSpecificity(t, constructor("pair", x, variable("a")), constructor("pair", y, constructor("int")))
		}
		for i, y := range insideValidTypes(x) {
			checkNames(t, y)
			checkSpecificity(t, y, around[i])
			checkSpecificity(t, y, around[(i+1)%len(around)])
			checkSpecificity(t, y, x)
		}
	}
}

func TestEverySmallSpecificity(t *testing.T) {
	var small, all []impl.Type
	for size := 1; size <= 3; size++ {
		all = append(all, typesOfSize([]string{"a", "b", "int"}, size)...)
	}
	for size := 1; size <= 2; size++ {
		small = append(small, typesOfSize([]string{"a", "int"}, size)...)
	}
	for i, x := range all {
		checkNames(t, x)
		checkNames(t, constructor("pair", x, dyn("b")))
		checkSpecificity(t, x, all[i*7%len(all)])
	}
	for _, x := range append(typesOfSize([]string{"a"}, 4), typesOfSize([]string{"bool"}, 4)...) {
		checkNames(t, x)
	}
	for _, x := range small {
		for _, y := range small {
			checkSpecificity(t, x, y)
		}
	}
}

func TestSpecificityLeavesItsArguments(t *testing.T) {
	x, slots := typesWithRoom()
	y, others := typesWithRoom()
	all := []impl.Type{x, variable("a"), constructor("list", y), y, variable("spare")}
	slots = append(append(slots, others...), all)
	defer unchanged(t, slots)()
	for i, a := range all[:4] {
		checkNames(t, a)
		checkNames(t, impl.Type{Kind: 2, Name: "f", Args: all[:i]})
		for _, b := range all[:4] {
			checkSpecificity(t, a, b)
		}
	}
	if got := impl.TypeNames(x); !slices.Equal(got, []string{"f", "pair", "unit"}) || impl.IsGround(x) || impl.HeadName(x) != "f" {
		t.Errorf("an answer is wrong about a type with spare capacity: %q", got)
	}
}

func TestTypeNamesReturnsNewMemory(t *testing.T) {
	part := constructor("pair", dyn("b"), constructor("a"))
	x := constructor("f", part, constructor("list", part), part)
	want := []string{"f", "pair", "b", "a", "list"}
	first, second := impl.TypeNames(x), impl.TypeNames(x)
	for i := range first[:cap(first)] {
		first[:cap(first)][i] = "changed"
	}
	if third := impl.TypeNames(x); !slices.Equal(third, want) || !slices.Equal(second, want) {
		t.Errorf("a result of TypeNames shares memory with another: %q, %q", second, third)
	}
	for _, cell := range typeCells(impl.Type{Args: []impl.Type{x}}) {
		*cell = constructor("changed")
	}
	if !slices.Equal(second, want) {
		t.Errorf("a result of TypeNames shares memory with its argument: %q", second)
	}
}

// These functions have no limits of their own, so that neither depth, width nor the number of names may exhaust anything.
func TestSpecificityFarBeyondTheLimits(t *testing.T) {
	const depth, width = 300000, 200000
	a, n := variable("a"), constructor("int")
	deep, ground := nestType(a, depth), nestType(n, depth)
	for i, c := range []struct {
		a        impl.Type
		relation string
		b        impl.Type
	}{
		{ground, more, deep}, {deep, more, a}, {ground, incomparable, nestType(dyn("int"), depth)}, {deep, same, nestType(variable("b"), depth)}, {constructor("pair", ground, nestType(n, depth)), more, constructor("pair", a, a)}, {constructor("pair", ground, deep), incomparable, constructor("pair", a, a)},
	} {
		// Printing these types takes minutes.
		if got := answered(c.a, c.b); got != c.relation {
			t.Errorf("the relation of two deep types is %s in case %d, want %s", got, i, c.relation)
		}
	}
	if impl.IsGround(deep) || !impl.IsGround(ground) || impl.HeadName(deep) != "list" || !slices.Equal(impl.TypeNames(nestType(dyn("b"), depth)), []string{"list", "b"}) {
		t.Error("a wrong answer about deep types")
	}
	wide, other := constructor("f"), constructor("f")
	names := []string{"f"}
	for i := range width {
		name := "a" + strconv.Itoa(i)
		wide.Args = append(wide.Args, constructor(name))
		other.Args = append(other.Args, variable(name))
		names = append(names, name)
	}
	checkRelation(t, wide, other, more)
	checkRelation(t, wide, constructor("f", other.Args[1:]...), incomparable)
	if !impl.IsGround(wide) || impl.IsGround(constructor("f", append(slices.Clone(wide.Args), a)...)) || !slices.Equal(impl.TypeNames(wide), names) {
		t.Error("a wrong answer about types with many arguments")
	}
}

// The parts of these types occur in them more often than they could be visited one by one.
func TestSpecificityWithoutBounds(t *testing.T) {
	doubled := func(x impl.Type) impl.Type {
		for range 100 {
			x = constructor("pair", x, x)
		}
		return x
	}
	looped := func(x impl.Type) impl.Type {
		args := make([]impl.Type, 2)
		args[0], args[1] = impl.Type{Kind: 2, Name: "pair", Args: args}, x
		return args[0]
	}
	a, b := variable("a"), variable("b")
	for i, endless := range []func(x impl.Type) impl.Type{doubled, looped} {
		ground, open := endless(dyn("show")), endless(a)
		if !impl.IsGround(ground) || impl.IsGround(open) || impl.IsGround(endless(projection("add", ground))) || impl.IsGround(projection("add", ground)) {
			t.Errorf("IsGround is wrong on types %d", i)
		}
		if !slices.Equal(impl.TypeNames(ground), []string{"pair", "show"}) || !slices.Equal(impl.TypeNames(open), []string{"pair"}) || impl.HeadName(open) != "pair" {
			t.Errorf("TypeNames or HeadName is wrong on types %d: %q, %q", i, impl.TypeNames(ground), impl.TypeNames(open))
		}
		if got := impl.TypeNames(constructor("f", endless(constructor("b", ground)), dyn("c"))); !slices.Equal(got, []string{"f", "pair", "b", "show", "c"}) {
			t.Errorf("TypeNames is wrong on types %d in one another: %q", i, got)
		}
		for j, c := range []struct {
			a        impl.Type
			relation string
			b        impl.Type
		}{
			{ground, same, ground}, {ground, same, endless(dyn("show"))}, {ground, incomparable, endless(dyn("b"))}, {ground, more, open}, {open, same, open}, {open, same, endless(b)}, {ground, more, a}, {open, more, a}, {ground, incomparable, dyn("show")}, {open, incomparable, constructor("int")},
			{constructor("f", ground, ground), more, constructor("f", a, a)}, {constructor("f", ground, endless(dyn("show"))), more, constructor("f", a, a)}, {constructor("f", ground, endless(dyn("b"))), incomparable, constructor("f", a, a)}, {constructor("f", ground, endless(dyn("b"))), more, constructor("f", a, b)}, {constructor("f", open, open), same, constructor("f", endless(b), endless(b))},
			{constructor("f", ground, dyn("show")), more, constructor("f", open, a)}, {constructor("f", ground, dyn("b")), incomparable, constructor("f", open, a)}, {constructor("f", open, a), more, constructor("f", open, b)}, {constructor("f", ground, open, ground), more, constructor("f", b, open, variable("c"))}, {constructor("f", ground, open), incomparable, constructor("f", a, open)},
		} {
			// These types can't be printed.
			if got := answered(c.a, c.b); got != c.relation {
				t.Errorf("the relation of types %d is %s in case %d, want %s", i, got, j, c.relation)
			}
		}
	}
	for i, c := range [][2]impl.Type{{looped(a), constructor("pair", b, variable("c"))}, {looped(looped(a)), looped(b)}, {looped(doubled(dyn("show"))), looped(doubled(a))}, {looped(constructor("list", b)), looped(a)}} {
		if got := answered(c[0], c[1]); got != more {
			t.Errorf("the relation is %s in case %d", got, i)
		}
	}
	if got := answered(looped(looped(a)), looped(looped(b))); got != same {
		t.Errorf("the relation of two types that contain themselves is %s", got)
	}
	if got := answered(looped(a), doubled(a)); got != incomparable {
		t.Errorf("the relation of a type that contains itself to one that doesn't is %s", got)
	}
}

// Lists of arguments that begin at the same place are different lists if one of them is longer.
func TestSpecificityOfTypesWithOverlappingArguments(t *testing.T) {
	a, n, d := variable("a"), constructor("int"), dyn("show")
	for _, c := range []struct {
		x, y     []impl.Type
		relation string
	}{
		{[]impl.Type{n, d}, []impl.Type{n, a}, more}, {[]impl.Type{n, d}, []impl.Type{n, dyn("b")}, incomparable}, {[]impl.Type{n, n}, []impl.Type{a, a}, more}, {[]impl.Type{n, d}, []impl.Type{a, a}, incomparable}, {[]impl.Type{d, a}, []impl.Type{d, variable("b")}, same}, {[]impl.Type{n, projection("add", n)}, []impl.Type{n, projection("add", a)}, more},
	} {
		for _, lengths := range [][2]int{{1, 2}, {2, 1}, {0, 2}, {2, 2}} {
			overlapping := func(list []impl.Type) impl.Type {
				return constructor("f", constructor("g", list[:lengths[0]]...), constructor("h", list[:lengths[1]]...), constructor("g", list[1:]...))
			}
			x, y := overlapping(c.x), overlapping(c.y)
			checkRelation(t, x, y, c.relation)
			checkSpecificity(t, x, y)
			checkNames(t, x)
			checkNames(t, y)
			// The part at the end isn't there, so that only the second list can show what is in it.
			x.Args, y.Args = x.Args[:2], y.Args[:2]
			checkSpecificity(t, x, y)
			checkSpecificity(t, constructor("f", x, x), constructor("f", y, a))
			checkNames(t, x)
			checkNames(t, y)
		}
	}
}
