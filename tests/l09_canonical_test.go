package tests

import (
	"math/rand"
	"slices"
	"strconv"
	"testing"

	"loop.example/g00508/impl"
)

// renamingByDefinition numbers the variables one after the other.
func renamingByDefinition(all []impl.Type) []impl.Binding {
	var list []impl.Binding
	for i, v := range unionByDefinition(variablesByDefinition(impl.Type{Args: all}), nil) {
		list = append(list, bind(v, variable("v"+strconv.Itoa(i))))
	}
	return list
}

func canonicalByDefinition(x impl.Type) impl.Type {
	return applyByDefinition(renamingByDefinition([]impl.Type{x}), x)
}

// variableHasArguments is true only of invalid types.
func variableHasArguments(x impl.Type) bool {
	return x.Kind == 1 && len(x.Args) > 0 || slices.ContainsFunc(x.Args, variableHasArguments)
}

// checkCanonical compares every answer about the types and about each of them with its definition.
func checkCanonical(t *testing.T, all []impl.Type) {
	t.Helper()
	renaming := renamingByDefinition(all)
	if got := impl.CanonicalRenaming(all); !sameBindings(got, renaming) {
		t.Errorf("CanonicalRenaming(%s) = %s, want %s", brief(all), brief(got), brief(renaming))
	}
	want := appliedToAll(renaming, all)
	if got := impl.CanonicalizeAll(all); !sameTypes(got, want) {
		t.Errorf("CanonicalizeAll(%s) = %s, want %s", brief(all), brief(got), brief(want))
	}
	for _, x := range all {
		if got, want := impl.Canonicalize(x), canonicalByDefinition(x); !sameType(got, want) {
			t.Errorf("Canonicalize(%s) = %s, want %s", brief(x), brief(got), brief(want))
		}
		if !impl.AlphaEquivalent(x, x) {
			t.Errorf("AlphaEquivalent is false of %s and itself", brief(x))
		}
	}
}

// checkAlpha compares the answer about two types with its definition and, where no variable has arguments, with mutual matching.
func checkAlpha(t *testing.T, a, b impl.Type) bool {
	t.Helper()
	want := sameType(canonicalByDefinition(a), canonicalByDefinition(b))
	if impl.AlphaEquivalent(a, b) != want || impl.AlphaEquivalent(b, a) != want {
		t.Errorf("AlphaEquivalent(%s, %s) = %v, and %v the other way round, want %v", brief(a), brief(b), impl.AlphaEquivalent(a, b), impl.AlphaEquivalent(b, a), want)
	}
	if variableHasArguments(a) || variableHasArguments(b) {
		return want
	}
	_, there := matchByPlaces([]impl.Type{a}, []impl.Type{b})
	_, back := matchByPlaces([]impl.Type{b}, []impl.Type{a})
	if want != (there && back) || want != (impl.Matches(a, b) && impl.Matches(b, a)) {
		t.Errorf("AlphaEquivalent(%s, %s) = %v, but they match %v and %v", brief(a), brief(b), want, there, back)
	}
	return want
}

func TestCanonicalize(t *testing.T) {
	for _, c := range [][2]string{
		// No variables.
		{"int", "int"}, {"bool", "bool"}, {"unit", "unit"}, {"v0", "v0"}, {"(dyn show)", "(dyn show)"}, {"(dyn v1)", "(dyn v1)"}, {"(list int)", "(list int)"}, {"(assoc add int)", "(assoc add int)"}, {"(f int (dyn a) (assoc a v3))", "(f int (dyn a) (assoc a v3))"},
		// One, in each kind of type.
		{"'a", "'v0"}, {"'abcdefgh", "'v0"}, {"'self", "'v0"}, {"(list 'a)", "(list 'v0)"}, {"(assoc add 'a)", "(assoc add 'v0)"}, {"(pair int 'b)", "(pair int 'v0)"}, {"(f int (dyn b) 'b)", "(f int (dyn b) 'v0)"}, {"(list (list (list 'x)))", "(list (list (list 'v0)))"},
		{"(assoc add (assoc sub (list 'a)))", "(assoc add (assoc sub (list 'v0)))"}, {"(list (list (list (list (list (list 'a))))))", "(list (list (list (list (list (list 'v0))))))"},
		// One that occurs more than once.
		{"(pair 'a 'a)", "(pair 'v0 'v0)"}, {"(f 'b 'b 'b)", "(f 'v0 'v0 'v0)"}, {"(f 'b (dyn b) (list 'b))", "(f 'v0 (dyn b) (list 'v0))"}, {"(pair (assoc add 'c) 'c)", "(pair (assoc add 'v0) 'v0)"},
		// Several.
		{"(pair 'a 'b)", "(pair 'v0 'v1)"}, {"(pair 'b 'a)", "(pair 'v0 'v1)"}, {"(f 'c 'b 'a)", "(f 'v0 'v1 'v2)"}, {"(f 'a 'b 'a)", "(f 'v0 'v1 'v0)"}, {"(f 'b 'b 'a)", "(f 'v0 'v0 'v1)"}, {"(f 'b 'a 'a)", "(f 'v0 'v1 'v1)"}, {"(pair 'b (pair 'a 'b))", "(pair 'v0 (pair 'v1 'v0))"},
		{"(pair (list 'b) 'a)", "(pair (list 'v0) 'v1)"}, {"(pair (pair 'd 'c) (pair 'b 'a))", "(pair (pair 'v0 'v1) (pair 'v2 'v3))"}, {"(pair 'd (pair 'c (pair 'b 'a)))", "(pair 'v0 (pair 'v1 (pair 'v2 'v3)))"}, {"(pair (pair (pair 'd 'c) 'b) 'a)", "(pair (pair (pair 'v0 'v1) 'v2) 'v3)"},
		{"(f (assoc add 'c) (list (pair 'a 'c)) (list 'b))", "(f (assoc add 'v0) (list (pair 'v1 'v0)) (list 'v2))"}, {"(f (g 'c 'b) (dyn c) (h 'a 'b 'c))", "(f (g 'v0 'v1) (dyn c) (h 'v2 'v1 'v0))"},
		// What is no variable keeps its name, although a variable has the same one.
		{"(a 'a)", "(a 'v0)"}, {"(assoc a 'a)", "(assoc a 'v0)"}, {"(f a 'a (dyn a))", "(f a 'v0 (dyn a))"}, {"(v1 'v1 (v0 'v0) (dyn v0))", "(v1 'v0 (v0 'v1) (dyn v0))"}, {"(assoc v0 (list 'list))", "(assoc v0 (list 'v0))"},
	} {
		x := typesIn(t, c[0])[0]
		if got := impl.FormatType(impl.Canonicalize(x)); got != c[1] {
			t.Errorf("Canonicalize(%s) = %s, want %s", c[0], got, c[1])
		}
		checkCanonical(t, []impl.Type{x})
		checkAlpha(t, x, typesIn(t, c[1])[0])
	}
}

// Variables that are called v0, v1 and so on are renamed like others, all at once.
func TestCanonicalNamesOfVariablesAreNoObstacle(t *testing.T) {
	for _, c := range []struct{ x, renaming, want string }{
		{"(pair 'v1 'v0)", "v1: 'v0, v0: 'v1", "(pair 'v0 'v1)"}, {"(pair 'v0 'v1)", "v0: 'v0, v1: 'v1", "(pair 'v0 'v1)"}, {"'v0", "v0: 'v0", "'v0"}, {"'v1", "v1: 'v0", "'v0"}, {"'v9", "v9: 'v0", "'v0"}, {"(pair 'v1 'v1)", "v1: 'v0", "(pair 'v0 'v0)"},
		{"(f 'v1 'v2 'v0)", "v1: 'v0, v2: 'v1, v0: 'v2", "(f 'v0 'v1 'v2)"}, {"(f 'v2 'v0 'v1)", "v2: 'v0, v0: 'v1, v1: 'v2", "(f 'v0 'v1 'v2)"}, {"(f 'v2 'v1 'v0)", "v2: 'v0, v1: 'v1, v0: 'v2", "(f 'v0 'v1 'v2)"}, {"(f 'v0 'v2 'v1)", "v0: 'v0, v2: 'v1, v1: 'v2", "(f 'v0 'v1 'v2)"},
		{"(f 'a 'v0 'v1)", "a: 'v0, v0: 'v1, v1: 'v2", "(f 'v0 'v1 'v2)"}, {"(f 'v1 'a 'v0)", "v1: 'v0, a: 'v1, v0: 'v2", "(f 'v0 'v1 'v2)"}, {"(f 'v0 'a 'v1)", "v0: 'v0, a: 'v1, v1: 'v2", "(f 'v0 'v1 'v2)"}, {"(pair 'a 'v0)", "a: 'v0, v0: 'v1", "(pair 'v0 'v1)"}, {"(pair 'v1 'a)", "v1: 'v0, a: 'v1", "(pair 'v0 'v1)"},
		{"(pair (pair 'v1 'v0) (pair 'v0 'v1))", "v1: 'v0, v0: 'v1", "(pair (pair 'v0 'v1) (pair 'v1 'v0))"}, {"(f (assoc add 'v3) (list 'v0) (pair 'v3 'v2))", "v3: 'v0, v0: 'v1, v2: 'v2", "(f (assoc add 'v0) (list 'v1) (pair 'v0 'v2))"},
		// Names that only look like canonical ones.
		{"(f 'v 'v00 'v01)", "v: 'v0, v00: 'v1, v01: 'v2", "(f 'v0 'v1 'v2)"}, {"(f 'v10 'v1 'v100)", "v10: 'v0, v1: 'v1, v100: 'v2", "(f 'v0 'v1 'v2)"}, {"(f 'u0 'v0 'w0)", "u0: 'v0, v0: 'v1, w0: 'v2", "(f 'v0 'v1 'v2)"},
	} {
		types, renaming := typesIn(t, c.x), bindingsIn(t, c.renaming)
		if got := impl.CanonicalRenaming(types); !sameBindings(got, renaming) {
			t.Errorf("CanonicalRenaming(%s) = %v, want %s", c.x, got, c.renaming)
		}
		if got := impl.FormatType(impl.Canonicalize(types[0])); got != c.want {
			t.Errorf("Canonicalize(%s) = %s, want %s", c.x, got, c.want)
		}
		checkCanonical(t, types)
	}
}

// The numbers go on from type to type; Canonicalize begins anew with each type.
func TestCanonicalizeAll(t *testing.T) {
	for _, c := range []struct{ all, renaming, want string }{
		{"", "", ""}, {"int", "", "int"}, {"int,bool,(dyn v0)", "", "int,bool,(dyn v0)"}, {"'a", "a: 'v0", "'v0"}, {"(pair 'b 'a)", "b: 'v0, a: 'v1", "(pair 'v0 'v1)"},
		// Types that share variables.
		{"'a,'a", "a: 'v0", "'v0,'v0"}, {"'x,(list 'y),'x", "x: 'v0, y: 'v1", "'v0,(list 'v1),'v0"}, {"(pair 'b 'a),(pair 'a 'b)", "b: 'v0, a: 'v1", "(pair 'v0 'v1),(pair 'v1 'v0)"}, {"(pair 'a 'b),'c,(pair 'c 'a)", "a: 'v0, b: 'v1, c: 'v2", "(pair 'v0 'v1),'v2,(pair 'v2 'v0)"},
		{"(list 'b),(assoc add 'b),(dyn b),'a,b,'b", "b: 'v0, a: 'v1", "(list 'v0),(assoc add 'v0),(dyn b),'v1,b,'v0"}, {"(f 'c 'b 'c),(f 'b 'a 'c)", "c: 'v0, b: 'v1, a: 'v2", "(f 'v0 'v1 'v0),(f 'v1 'v2 'v0)"},
		// Types that share none.
		{"'b,'a", "b: 'v0, a: 'v1", "'v0,'v1"}, {"'a,'b,'c", "a: 'v0, b: 'v1, c: 'v2", "'v0,'v1,'v2"}, {"(list 'd),(pair 'b 'b),(assoc add 'c)", "d: 'v0, b: 'v1, c: 'v2", "(list 'v0),(pair 'v1 'v1),(assoc add 'v2)"}, {"(pair 'd 'c),(pair 'b 'a)", "d: 'v0, c: 'v1, b: 'v2, a: 'v3", "(pair 'v0 'v1),(pair 'v2 'v3)"},
		// The first types have no variables.
		{"int,(list unit),'b", "b: 'v0", "int,(list unit),'v0"}, {"int,'b,bool,'a,int", "b: 'v0, a: 'v1", "int,'v0,bool,'v1,int"},
		// Names that clash, in one type or in several.
		{"'v1,'v0", "v1: 'v0, v0: 'v1", "'v0,'v1"}, {"'v0,'v1", "v0: 'v0, v1: 'v1", "'v0,'v1"}, {"'v1,(pair 'v0 'v1)", "v1: 'v0, v0: 'v1", "'v0,(pair 'v1 'v0)"}, {"'a,'v0,'v1", "a: 'v0, v0: 'v1, v1: 'v2", "'v0,'v1,'v2"}, {"'v2,'v1,'v0,(f 'v0 'v1 'v2)", "v2: 'v0, v1: 'v1, v0: 'v2", "'v0,'v1,'v2,(f 'v2 'v1 'v0)"},
		{"(list 'v3),int,(pair 'v1 'v3),'v0", "v3: 'v0, v1: 'v1, v0: 'v2", "(list 'v0),int,(pair 'v1 'v0),'v2"},
	} {
		all, renaming, want := typesIn(t, c.all), bindingsIn(t, c.renaming), typesIn(t, c.want)
		if got := impl.CanonicalRenaming(all); !sameBindings(got, renaming) {
			t.Errorf("CanonicalRenaming(%s) = %v, want %s", c.all, got, c.renaming)
		}
		if got := impl.CanonicalizeAll(all); !sameTypes(got, want) {
			t.Errorf("CanonicalizeAll(%s) = %v, want %s", c.all, got, c.want)
		}
		checkCanonical(t, all)
		checkCanonical(t, want)
	}
	for _, none := range [][]impl.Type{nil, {}, make([]impl.Type, 0, 4)} {
		if renaming, all := impl.CanonicalRenaming(none), impl.CanonicalizeAll(none); len(renaming) != 0 || len(all) != 0 {
			t.Errorf("of no types, the renaming is %v and the canonical ones are %v", renaming, all)
		}
	}
}

// mostVariables is the number of variables of a valid type that has as many different ones as it can.
const mostVariables = 40

// widestType returns a valid type with that many variables, which have the names in pre-order.
func widestType(name func(i int) string) impl.Type {
	next := 0
	leaf := func() impl.Type {
		next++
		return variable(name(next - 1))
	}
	var all []impl.Type
	for i := range 27 {
		switch {
		case i < 6:
			all = append(all, constructor("f", leaf(), leaf(), leaf()))
		case i == 6:
			all = append(all, constructor("pair", leaf(), leaf()))
		default:
			all = append(all, leaf())
		}
	}
	for len(all) > 1 {
		var above []impl.Type
		for args := range slices.Chunk(all, 3) {
			above = append(above, constructor("f", args...))
		}
		all = above
	}
	return all[0]
}

func TestCanonicalNamesOfManyVariables(t *testing.T) {
	number := func(i int) string { return "v" + strconv.Itoa(i) }
	want := widestType(number)
	names := impl.TypeVariables(want)
	if !impl.IsValidType(want) || len(names) != mostVariables || names[mostVariables-1] != "v39" {
		t.Fatalf("the widest type of this test has the variables %q", names)
	}
	for i, name := range []func(i int) string{
		number, func(i int) string { return number(mostVariables - 1 - i) }, func(i int) string { return number(i + 1) }, func(i int) string { return number((i + 1) % mostVariables) }, func(i int) string { return number(i * 10) }, func(i int) string { return number(i * 7 % mostVariables) },
		func(i int) string { return "a" + strconv.Itoa(1000000+i) }, func(i int) string { return "zyxw" + strconv.Itoa(9999-i) }, func(i int) string { return number(i) + "v" }, func(i int) string { return number(i ^ 1) },
	} {
		x := widestType(name)
		if got := impl.Canonicalize(x); !sameType(got, want) || !impl.AlphaEquivalent(x, want) || !impl.AlphaEquivalent(want, x) {
			t.Errorf("Canonicalize of many variables = %v in case %d", got, i)
		}
		list := impl.CanonicalRenaming([]impl.Type{x})
		for j, b := range list {
			if len(list) != mostVariables || b.Var != name(j) || !sameType(b.Type, variable(names[j])) {
				t.Errorf("the renaming of many variables is %v in case %d", list, i)
			}
		}
		checkCanonical(t, []impl.Type{want, x, constructor("list", variable("a")), x})
		// Two of the variables become one, wherever they stand.
		for j := range mostVariables - 1 {
			merged := renameByDefinition(x, name(mostVariables-1-j), name(j/3))
			checkAlpha(t, x, merged)
			checkCanonical(t, []impl.Type{merged})
		}
	}
	var all []impl.Type
	for i := range 1200 {
		all = append(all, constructor("list", variable("a"+strconv.Itoa(i*7%1200))))
	}
	got := impl.CanonicalizeAll(all)
	for i, x := range got {
		if len(got) != 1200 || !sameType(x, constructor("list", variable(number(i)))) {
			t.Fatalf("of 1200 variables, number %d becomes %v", i, x)
		}
	}
	checkCanonical(t, all)
}

func TestAlphaEquivalent(t *testing.T) {
	for _, c := range []struct {
		a, b string
		want bool
	}{
		{"int", "int", true}, {"int", "bool", false}, {"unit", "(dyn unit)", false}, {"(dyn a)", "(dyn a)", true}, {"(dyn a)", "(dyn b)", false}, {"a", "b", false}, {"a", "'a", false}, {"'a", "int", false}, {"'a", "(dyn a)", false}, {"'v0", "v0", false},
		{"'a", "'a", true}, {"'a", "'b", true}, {"'a", "'v0", true}, {"'v1", "'v0", true}, {"(list 'a)", "(list 'b)", true}, {"(list 'a)", "(box 'a)", false}, {"(list 'a)", "(assoc list 'a)", false}, {"(assoc add 'a)", "(assoc add 'b)", true}, {"(assoc add 'a)", "(assoc sub 'a)", false},
		{"(list 'a)", "'a", false}, {"(list 'a)", "list", false}, {"(list 'a)", "(list 'a 'a)", false}, {"(list 'a)", "(list int)", false}, {"(list 'a)", "(list (list 'a))", false}, {"(list (list 'x))", "(list (list 'y))", true},
		{"(f 'a 'b)", "(f 'b 'c)", true}, {"(f 'a 'b)", "(f 'a 'a)", false}, {"(f 'a 'a)", "(f 'b 'b)", true}, {"(f 'a 'b)", "(f 'b 'a)", true}, {"(f 'v0 'v1)", "(f 'v1 'v0)", true}, {"(f 'v0 'v0)", "(f 'v1 'v0)", false}, {"(f 'v1 'v0)", "(f 'a 'v0)", true}, {"(f 'v0 'v1)", "(f 'v0 'v0)", false},
		{"(f 'a 'b 'a)", "(f 'b 'a 'b)", true}, {"(f 'a 'b 'a)", "(f 'a 'a 'b)", false}, {"(f 'a 'b 'a)", "(f 'a 'b 'b)", false}, {"(f 'a 'b 'a)", "(f 'a 'b 'c)", false}, {"(f 'a 'b 'c)", "(f 'b 'c 'a)", true}, {"(f 'a 'b int)", "(f 'a int 'b)", false}, {"(f 'a int 'a)", "(f 'b int 'b)", true}, {"(f 'a int 'a)", "(f 'b int 'c)", false},
		{"(pair 'a (list 'b))", "(pair 'b (list 'a))", true}, {"(pair 'a (list 'b))", "(pair 'b (list 'b))", false}, {"(pair (pair 'a 'b) (pair 'b 'a))", "(pair (pair 'c 'a) (pair 'a 'c))", true}, {"(pair (pair 'a 'b) (pair 'b 'a))", "(pair (pair 'a 'b) (pair 'a 'b))", false},
		{"(f (assoc add 'a) 'b (dyn b))", "(f (assoc add 'b) 'a (dyn b))", true}, {"(f (assoc add 'a) 'b (dyn b))", "(f (assoc add 'a) 'b (dyn a))", false}, {"(f (assoc add 'a) 'b 'a)", "(f (assoc add 'b) 'a 'b)", true}, {"(f (assoc add 'a) 'b 'a)", "(f (assoc add 'b) 'a 'a)", false},
	} {
		a, b := typesIn(t, c.a)[0], typesIn(t, c.b)[0]
		if got := checkAlpha(t, a, b); got != c.want || impl.AlphaEquivalent(a, b) != c.want {
			t.Errorf("AlphaEquivalent(%s, %s) = %v", c.a, c.b, impl.AlphaEquivalent(a, b))
		}
		checkCanonical(t, []impl.Type{a, b})
	}
}

// validTypesOfSize returns every valid type of at most the given size over the names.
func validTypesOfSize(names []string, size int) []impl.Type {
	var valid []impl.Type
	for n := 1; n <= size; n++ {
		for _, x := range typesOfSize(names, n) {
			if rulesByDefinition(x) {
				valid = append(valid, x)
			}
		}
	}
	return valid
}

func TestAlphaEquivalenceIsMutualMatching(t *testing.T) {
	triples := func(parts ...string) []impl.Type {
		var all []impl.Type
		for _, list := range allLists(parts, 3) {
			if len(list) == 3 {
				all = append(all, typesIn(t, "(f "+list[0]+" "+list[1]+" "+list[2]+")")...)
			}
		}
		return all
	}
	for i, pool := range [][]impl.Type{
		validTypesOfSize([]string{"a", "v0"}, 3), validTypesOfSize([]string{"v1"}, 4),
		triples("'a", "'v0", "'v1", "int", "(list 'v0)", "(assoc add 'v1)"), triples("(g 'a 'v0)", "(g 'v0 'a)", "'v0", "(g 'v1 'v1)", "(dyn v0)"),
	} {
		equivalent := 0
		for _, a := range pool {
			for _, b := range pool {
				if checkAlpha(t, a, b) {
					equivalent++
				}
			}
		}
		if equivalent < len(pool) || equivalent > len(pool)*len(pool)/4 {
			t.Errorf("%d of the %d pairs of pool %d are alpha-equivalent", equivalent, len(pool)*len(pool), i)
		}
	}
}

func TestEverySmallCanonicalType(t *testing.T) {
	var all []impl.Type
	for size := 1; size <= 3; size++ {
		all = append(all, typesOfSize([]string{"a", "v0"}, size)...)
	}
	for i, x := range all {
		checkCanonical(t, []impl.Type{x})
		checkCanonical(t, []impl.Type{x, variable("v0"), all[i*7%len(all)]})
		checkCanonical(t, []impl.Type{constructor("pair", variable("v1"), x), constructor("pair", x, variable("a"))})
	}
	for _, x := range typesOfSize([]string{"v1"}, 4) {
		checkCanonical(t, []impl.Type{x})
	}
	for _, a := range all[:110] {
		for _, b := range all[:110] {
			checkAlpha(t, a, b)
		}
	}
}

// Every list of three small types, with each variable in each of them.
func TestEverySmallCanonicalizeAll(t *testing.T) {
	types := typesIn(t, "'a,'v0,'v1,int,(list 'v1),(pair 'v1 'v0),(pair 'v0 'a),(assoc add 'v0)")
	for _, x := range types {
		for _, y := range types {
			checkCanonical(t, []impl.Type{x, y})
			for _, z := range types {
				checkCanonical(t, []impl.Type{x, y, z})
			}
		}
	}
}

func TestRandomCanonicalTypes(t *testing.T) {
	random := rand.New(rand.NewSource(9))
	names := []string{"a", "b", "c", "d", "v0", "v1", "v2", "v3", "v10"}
	equivalent := 0
	for i := range 20000 {
		var all []impl.Type
		for range 1 + random.Intn(3) {
			all = append(all, randomType(random, random.Intn(5), i%2 == 0))
		}
		random.Shuffle(len(names), func(j, k int) { names[j], names[k] = names[k], names[j] })
		var list []impl.Binding
		for j, v := range []string{"a", "b", "c", "d"} {
			list = append(list, bind(v, variable(names[j])))
		}
		renamed := appliedToAll(list, all)
		checkCanonical(t, renamed)
		for j, x := range renamed {
			if i%2 == 0 && !checkAlpha(t, all[j], x) {
				t.Errorf("%v with other names is not alpha-equivalent", x)
			}
			// With one place changed, it may or may not be.
			changed := impl.Type{Args: []impl.Type{copyType(x)}}
			cells := typeCells(changed)
			*cells[random.Intn(len(cells))] = variable(names[random.Intn(5)])
			if checkAlpha(t, all[j], changed.Args[0]) {
				equivalent++
			}
		}
		if i%2 == 0 && !sameTypes(impl.CanonicalizeAll(renamed), impl.CanonicalizeAll(all)) {
			t.Errorf("%v and %v differ in more than their names", renamed, all)
		}
	}
	if equivalent < 4000 || equivalent > 30000 {
		t.Errorf("%d of about 40000 changed types are alpha-equivalent", equivalent)
	}
}

// The canonical form of valid types is their only one: it is canonical itself.
func TestCanonicalFormIsCanonical(t *testing.T) {
	for _, x := range append(validTypes(), widestType(func(i int) string { return "v" + strconv.Itoa(mostVariables-1-i) }), nestType(variable("v6"), 6), typeOfSize(60)) {
		for _, y := range insideValidTypes(x) {
			all := impl.CanonicalizeAll([]impl.Type{y, x})
			if got := impl.CanonicalizeAll(all); !sameTypes(got, all) {
				t.Errorf("the canonical form of %v is %v", all, got)
			}
			for _, b := range impl.CanonicalRenaming(all) {
				if !sameType(b.Type, variable(b.Var)) {
					t.Errorf("the renaming of %v has %v", all, b)
				}
			}
			checkAlpha(t, y, all[0])
			checkAlpha(t, x, all[1])
		}
	}
}

func TestCanonicalFormsOfInvalidTypes(t *testing.T) {
	a, b, n, v0, v1, v2 := variable("a"), variable("b"), constructor("int"), variable("v0"), variable("v1"), variable("v2")
	withArgs := typeWith(1, "a", 2, b)
	for _, c := range []struct {
		x, want impl.Type
		vars    []string
	}{
		// A kind that is none of the four has no variable of its own, but there may be some below it.
		{impl.Type{}, impl.Type{}, nil}, {impl.Type{Name: "a"}, impl.Type{Name: "a"}, nil}, {impl.Type{Kind: 5, Name: "a"}, impl.Type{Kind: 5, Name: "a"}, nil}, {impl.Type{Kind: -1, Name: "v1"}, impl.Type{Kind: -1, Name: "v1"}, nil}, {impl.Type{Kind: 1 + 1<<32, Name: "a"}, impl.Type{Kind: 1 + 1<<32, Name: "a"}, nil},
		{typeWith(0, "a", 2, a), typeWith(0, "a", 2, v0), []string{"a"}}, {typeWith(5, "", 1, b), typeWith(5, "", 1, v0), []string{"b"}}, {impl.Type{Kind: -9, Name: "x", Args: []impl.Type{b, a, n, b}}, impl.Type{Kind: -9, Name: "x", Args: []impl.Type{v0, v1, n, v0}}, []string{"b", "a"}},
		// A variable that has arguments is replaced together with them; the variables in them are variables of the type and have numbers.
		{typeWith(1, "a", 1, n), v0, []string{"a"}}, {withArgs, v0, []string{"a", "b"}}, {typeWith(1, "v0", 2, n), v0, []string{"v0"}}, {typeWith(1, "v0", 1, v1), v0, []string{"v0", "v1"}}, {typeWith(1, "v0", 1, v0), v0, []string{"v0"}}, {typeWith(1, "v1", 3, v0), v0, []string{"v1", "v0"}},
		{constructor("pair", withArgs, b), constructor("pair", v0, v1), []string{"a", "b"}}, {constructor("pair", withArgs, variable("c")), constructor("pair", v0, v2), []string{"a", "b", "c"}}, {constructor("pair", variable("c"), withArgs), constructor("pair", v0, v1), []string{"c", "a", "b"}}, {constructor("pair", b, withArgs), constructor("pair", v0, v1), []string{"b", "a"}},
		{constructor("f", typeWith(1, "v0", 1, variable("x")), v2, v1), constructor("f", v0, v2, variable("v3")), []string{"v0", "x", "v2", "v1"}}, {typeWith(1, "a", 1, constructor("list", typeWith(1, "c", 1, b))), v0, []string{"a", "c", "b"}}, {projection("add", withArgs), projection("add", v0), []string{"a", "b"}},
		// Names that are not valid are names like any other.
		{variable(""), v0, []string{""}}, {variable("int"), v0, []string{"int"}}, {variable("?0"), v0, []string{"?0"}}, {variable("'a"), v0, []string{"'a"}}, {constructor("f", variable("A"), variable(""), variable("A")), constructor("f", v0, v1, v0), []string{"A", ""}}, {variable("v0123456789"), v0, []string{"v0123456789"}},
		{constructor("f", variable("V0"), variable("v0 "), v0), constructor("f", v0, v1, v2), []string{"V0", "v0 ", "v0"}}, {constructor("pair", variable("v-1"), variable("v+0")), constructor("pair", v0, v1), []string{"v-1", "v+0"}}, {constructor("", a), constructor("", v0), []string{"a"}}, {dyn(""), dyn(""), nil}, {projection("A", b), projection("A", v0), []string{"b"}},
		// Numbers of arguments that the kind doesn't permit, and sizes and depths beyond the limits.
		{projection("add"), projection("add"), nil}, {projection("add", b, a), projection("add", v0, v1), []string{"b", "a"}}, {typeWith(4, "show", 1, a), typeWith(4, "show", 1, v0), []string{"a"}}, {constructor("int", b, a, b), constructor("int", v0, v1, v0), []string{"b", "a"}}, {typeWith(2, "f", 5, a), typeWith(2, "f", 5, v0), []string{"a"}},
		{nestType(a, 40), nestType(v0, 40), []string{"a"}}, {typeOfSize(200), typeOfSize(200), nil}, {typeWith(2, "f", 100, constructor("pair", b, a)), typeWith(2, "f", 100, constructor("pair", v0, v1)), []string{"b", "a"}},
	} {
		if got := impl.Canonicalize(c.x); !sameType(got, c.want) {
			t.Errorf("Canonicalize(%s) = %s, want %s", brief(c.x), brief(got), brief(c.want))
		}
		var want []impl.Binding
		for i, v := range c.vars {
			want = append(want, bind(v, variable("v"+strconv.Itoa(i))))
		}
		if got := impl.CanonicalRenaming([]impl.Type{n, c.x, c.x}); !sameBindings(got, want) {
			t.Errorf("CanonicalRenaming(%s) = %s, want %s", brief(c.x), brief(got), brief(want))
		}
		checkCanonical(t, append(insideValidTypes(c.x), typeWith(1, "e", 2, c.x), typeWith(0, "", 3, c.x), v1))
		checkAlpha(t, c.x, c.want)
	}
}

// Valid and invalid types in one another.
func TestCanonicalFormsOfAllKinds(t *testing.T) {
	all := append(validTypes(), invalidTypes()...)
	for _, x := range all {
		checkCanonical(t, insideValidTypes(x))
		for _, y := range all {
			checkAlpha(t, x, y)
			checkCanonical(t, []impl.Type{x, y})
			checkAlpha(t, constructor("pair", x, variable("v0")), constructor("pair", y, variable("a")))
		}
		for _, y := range insideValidTypes(x) {
			for _, z := range insideValidTypes(renameByDefinition(x, "a", "v0")) {
				checkAlpha(t, y, z)
			}
		}
	}
}

// The order in which a map is iterated changes from call to call.
func TestCanonicalAnswersStayTheSame(t *testing.T) {
	x := widestType(func(i int) string { return "v" + strconv.Itoa(i*7%mostVariables) })
	all := []impl.Type{constructor("pair", variable("v39"), variable("a")), x, variable("v0")}
	for range 200 {
		checkCanonical(t, all)
	}
}

func TestCanonicalFunctionsLeaveTheirArguments(t *testing.T) {
	x, slots := typesWithRoom()
	y, others := typesWithRoom()
	all := []impl.Type{x, variable("v0"), constructor("list", y), y, variable("spare")}
	slots = append(append(slots, others...), all)
	defer unchanged(t, slots)()
	for length := range 5 {
		checkCanonical(t, all[:length])
	}
	if got := impl.FormatType(impl.Canonicalize(x)); got != "(f (pair 'v0 (assoc add 'v1)) unit 'v0)" || !checkAlpha(t, x, y) {
		t.Errorf("Canonicalize or AlphaEquivalent is wrong on a type with spare capacity: %s", got)
	}
}

// sharingTypes returns types whose parts share memory with one another.
func sharingTypes() []impl.Type {
	value := constructor("pair", variable("v1"), projection("add", variable("v0")))
	whole := constructor("f", value, constructor("list", value), value)
	canonical := constructor("pair", variable("v1"), variable("v1"))
	return []impl.Type{whole, whole, value, canonical, canonical, constructor("list", whole.Args[1]), variable("v1")}
}

func TestCanonicalFunctionsReturnNewMemory(t *testing.T) {
	all := sharingTypes()
	var results []impl.Type
	var places []*impl.Binding
	for range 2 {
		list := impl.CanonicalRenaming(all)
		for i := range list[:cap(list)] {
			places = append(places, &list[:cap(list)][i])
			results = append(results, list[:cap(list)][i].Type)
		}
		results = append(results, impl.Type{Args: impl.CanonicalizeAll(all)})
		for _, x := range all {
			results = append(results, impl.Canonicalize(x))
		}
	}
	if len(places) < 4 || !allDifferent(places) {
		t.Errorf("renamings share memory: %d bindings", len(places))
	}
	// The types share nothing with one another, within themselves or with the arguments.
	var holders []impl.Binding
	for _, x := range results {
		holders = append(holders, bind("", x))
	}
	checkNewMemory(t, all, holders)
}

func TestChangedArgumentsLeaveCanonicalForms(t *testing.T) {
	all := sharingTypes()
	one, many, list := impl.Canonicalize(all[0]), impl.CanonicalizeAll(all), impl.CanonicalRenaming(all)
	for _, cell := range cellsOfTypes(all) {
		*cell = variable("changed")
	}
	const value = "(pair 'v0 (assoc add 'v1))"
	const whole = "(f " + value + " (list " + value + ") " + value + ")"
	if impl.FormatType(one) != whole || !sameBindings(list, bindingsIn(t, "v1: 'v0, v0: 'v1")) {
		t.Errorf("a result shares memory with an argument: %v, %v", one, list)
	}
	if want := typesIn(t, whole+","+whole+","+value+",(pair 'v0 'v0),(pair 'v0 'v0),(list (list "+value+")),'v0"); !sameTypes(many, want) {
		t.Errorf("a result of CanonicalizeAll shares memory with an argument: %v, want %v", many, want)
	}
}

// An empty slice of an argument has memory too, if it has capacity.
func TestEmptySlicesInCanonicalFormsAreNew(t *testing.T) {
	room := make([]impl.Type, 1, 4)
	empty, name := impl.Type{Kind: 2, Name: "unit", Args: room[:0]}, impl.Type{Kind: 1, Name: "v0", Args: room[:0]}
	all := impl.CanonicalizeAll([]impl.Type{name, empty, constructor("list", empty), constructor("list", name)})
	list := impl.CanonicalRenaming([]impl.Type{name})
	for _, got := range []impl.Type{impl.Canonicalize(empty), impl.Canonicalize(name), all[0], all[1], all[2].Args[0], all[3].Args[0], list[0].Type} {
		got.Args = append(got.Args, variable("changed"))
	}
	none := append(impl.CanonicalizeAll(room[:0]), variable("changed"))
	for _, x := range room[:cap(room)] {
		if len(none) != 1 || !sameType(x, impl.Type{}) {
			t.Errorf("a result shares the unused capacity of an argument: %v", x)
		}
	}
}

// Neither depth, width nor the number of variables may exhaust anything.
func TestCanonicalFormsFarBeyondTheLimits(t *testing.T) {
	const depth, width = 1000000, 200000
	deep, want := nestType(variable("a"), depth), nestType(variable("v0"), depth)
	if got := impl.Canonicalize(deep); !impl.EqualType(got, want) || !impl.AlphaEquivalent(deep, want) || impl.AlphaEquivalent(deep, nestType(constructor("int"), depth)) || impl.AlphaEquivalent(deep, nestType(deep, 1)) {
		t.Error("a wrong answer about deep types")
	}
	if list := impl.CanonicalRenaming([]impl.Type{variable("b"), deep}); !sameBindings(list, bindingsIn(t, "b: 'v0, a: 'v1")) {
		t.Errorf("the renaming of a deep type is %v", list)
	}
	var all, canonical []impl.Type
	var renaming []impl.Binding
	for i := range width {
		name := "v" + strconv.Itoa((i+1)%width)
		all, canonical = append(all, variable(name)), append(canonical, variable("v"+strconv.Itoa(i)))
		renaming = append(renaming, bind(name, canonical[i]))
	}
	twice := slices.Concat(all, all)
	if list := impl.CanonicalRenaming(twice); !impl.EqualBindings(list, renaming) {
		t.Error("CanonicalRenaming is wrong on many variables")
	}
	if got := impl.CanonicalizeAll(twice); !sameTypes(got, slices.Concat(canonical, canonical)) || !sameTypes(impl.CanonicalizeAll(canonical), canonical) {
		t.Error("CanonicalizeAll is wrong on many variables")
	}
	wide := constructor("f", all...)
	if !impl.AlphaEquivalent(wide, constructor("f", canonical...)) || impl.AlphaEquivalent(wide, constructor("f", all[1:]...)) || impl.AlphaEquivalent(wide, constructor("f", append(slices.Clone(all[:width-1]), all[0])...)) {
		t.Error("AlphaEquivalent is wrong on many variables")
	}
}
