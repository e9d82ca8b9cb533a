package tests

import (
	"maps"
	"math/rand"
	"slices"
	"strconv"
	"testing"

	"loop.example/g00508/impl"
)

// noMatch is what the tables of this file want where there is no match.
const noMatch = "-"

// replacedVariables returns the names of the variables that Apply replaces if all are bound: it does not look into a variable, although an invalid one may have arguments.
func replacedVariables(all []impl.Type) []string {
	var names []string
	for _, x := range all {
		if x.Kind == 1 {
			names = append(names, x.Name)
		} else {
			names = append(names, replacedVariables(x.Args)...)
		}
	}
	return unionByDefinition(names, nil)
}

func partsOf(all []impl.Type) []impl.Type {
	var parts []impl.Type
	for _, x := range all {
		parts = append(append(parts, x), partsOf(x.Args)...)
	}
	return parts
}

// mapsTo reports whether the substitution maps the patterns to the types.
func mapsTo(list []impl.Binding, p, all []impl.Type) bool {
	if len(p) != len(all) {
		return false
	}
	for i := range p {
		if !sameType(applyByDefinition(list, p[i]), all[i]) {
			return false
		}
	}
	return true
}

// matchByDefinition tries every substitution of parts of the types for the variables of the patterns.
func matchByDefinition(t *testing.T, p, all []impl.Type) ([]impl.Binding, bool) {
	t.Helper()
	lists := [][]impl.Binding{nil}
	for _, v := range replacedVariables(p) {
		var longer [][]impl.Binding
		for _, list := range lists {
			for _, x := range partsOf(all) {
				longer = append(longer, append(slices.Clone(list), bind(v, x)))
			}
		}
		lists = longer
	}
	var found []impl.Binding
	ok := false
	for _, list := range lists {
		if !mapsTo(list, p, all) {
			continue
		}
		if ok && !sameBindings(list, found) {
			t.Fatalf("two substitutions map %v to %v: %v and %v", p, all, found, list)
		}
		found, ok = list, true
	}
	return found, ok
}

// valuesOf returns what stands in the types at the places of v in the patterns.
func valuesOf(v string, p, all []impl.Type) []impl.Type {
	var values []impl.Type
	for i := range min(len(p), len(all)) {
		if p[i].Kind == 1 && p[i].Name == v {
			values = append(values, all[i])
		} else if p[i].Kind != 1 {
			values = append(values, valuesOf(v, p[i].Args, all[i].Args)...)
		}
	}
	return values
}

// matchByPlaces is quicker than matchByDefinition: it tries one substitution, that of the types at the first places.
func matchByPlaces(p, all []impl.Type) ([]impl.Binding, bool) {
	var list []impl.Binding
	for _, v := range replacedVariables(p) {
		values := valuesOf(v, p, all)
		if len(values) == 0 {
			return nil, false
		}
		list = append(list, bind(v, values[0]))
	}
	if !mapsTo(list, p, all) {
		return nil, false
	}
	return list, true
}

// checkMatchAll compares the answers of MatchAll, and of Match and Matches for each position, with what the caller knows of all positions.
func checkMatchAll(t *testing.T, p, all []impl.Type, want []impl.Binding, ok bool) {
	t.Helper()
	got, found := impl.MatchAll(p, all)
	if found != ok || !sameBindings(got, want) {
		t.Errorf("MatchAll(%.300v, %.300v) = %.300v, %v, want %.300v, %v", p, all, got, found, want, ok)
	}
	if back := impl.ApplyAll(got, p); found && !sameTypes(back, all) {
		t.Errorf("MatchAll(%.300v, %.300v) = %.300v, which maps to %.300v", p, all, got, back)
	}
	for i := range min(len(p), len(all)) {
		one, fits := matchByPlaces(p[i:i+1], all[i:i+1])
		checkMatch(t, p[i], all[i], one, fits)
		if ok && !fits {
			t.Errorf("%.300v matches %.300v in MatchAll, but not alone", p[i], all[i])
		}
	}
}

func checkMatch(t *testing.T, p, x impl.Type, want []impl.Binding, ok bool) {
	t.Helper()
	got, found := impl.Match(p, x)
	if found != ok || !sameBindings(got, want) {
		t.Errorf("Match(%.300v, %.300v) = %.300v, %v, want %.300v, %v", p, x, got, found, want, ok)
	}
	if back := impl.Apply(got, p); found && !sameType(back, x) {
		t.Errorf("Match(%.300v, %.300v) = %.300v, which maps to %.300v", p, x, got, back)
	}
	if impl.Matches(p, x) != ok {
		t.Errorf("Matches(%.300v, %.300v) = %v", p, x, !ok)
	}
}

// checkMatchText takes the patterns, the types and the bindings as texts.
func checkMatchText(t *testing.T, p, all, want string) {
	t.Helper()
	patterns, types := typesIn(t, p), typesIn(t, all)
	var list []impl.Binding
	if want != noMatch {
		list = bindingsIn(t, want)
	}
	checkMatchAll(t, patterns, types, list, want != noMatch)
	if len(patterns) == 1 && len(types) == 1 {
		checkMatch(t, patterns[0], types[0], list, want != noMatch)
	}
}

func TestMatch(t *testing.T) {
	for _, c := range []struct{ p, x, want string }{
		{"int", "int", ""}, {"bool", "bool", ""}, {"unit", "unit", ""}, {"(dyn show)", "(dyn show)", ""}, {"(list int)", "(list int)", ""}, {"(assoc add int)", "(assoc add int)", ""}, {"(f int (dyn a) (assoc a b))", "(f int (dyn a) (assoc a b))", ""},
		{"'a", "int", "a: int"}, {"'a", "unit", "a: unit"}, {"'a", "(dyn show)", "a: (dyn show)"}, {"'a", "(assoc add int)", "a: (assoc add int)"}, {"'a", "(pair int (list bool))", "a: (pair int (list bool))"},
		{"(list 'a)", "(list int)", "a: int"}, {"(list 'a)", "(list (list int))", "a: (list int)"}, {"(list (list 'a))", "(list (list int))", "a: int"}, {"(list 'a)", "(list (dyn list))", "a: (dyn list)"},
		{"(assoc add 'a)", "(assoc add int)", "a: int"}, {"(assoc add 'a)", "(assoc add (assoc add int))", "a: (assoc add int)"}, {"(assoc add (list 'a))", "(assoc add (list (dyn show)))", "a: (dyn show)"}, {"(list (assoc add 'a))", "(list (assoc add bool))", "a: bool"},
		{"(pair 'a 'b)", "(pair int bool)", "a: int, b: bool"}, {"(pair 'a 'b)", "(pair int int)", "a: int, b: int"}, {"(pair 'a bool)", "(pair int bool)", "a: int"}, {"(pair int 'a)", "(pair int bool)", "a: bool"},
		{"(f 'a (list 'b) (assoc add 'c))", "(f (dyn show) (list int) (assoc add (list bool)))", "a: (dyn show), b: int, c: (list bool)"}, {"(f 'a (dyn show) 'b)", "(f unit (dyn show) (dyn show))", "a: unit, b: (dyn show)"},
		{"(list (list (list (list (list (list 'a))))))", "(list (list (list (list (list (list int))))))", "a: int"}, {"'abcdefgh", "abcdefgh", "abcdefgh: abcdefgh"}, {"'list", "(list list)", "list: (list list)"},
		{"(list 'list)", "(list (list int))", "list: (list int)"}, {"(a 'a)", "(a a)", "a: a"}, {"(assoc a 'a)", "(assoc a (dyn a))", "a: (dyn a)"}, {"'self", "(assoc item int)", "self: (assoc item int)"},
	} {
		checkMatchText(t, c.p, c.x, c.want)
	}
}

func TestNoMatch(t *testing.T) {
	for _, c := range [][2]string{
		{"int", "bool"}, {"int", "unit"}, {"unit", "int"}, {"a", "b"}, {"a", "(dyn a)"}, {"(dyn a)", "a"}, {"(dyn a)", "(dyn b)"}, {"int", "(list int)"}, {"(list int)", "int"},
		{"(list 'a)", "(box int)"}, {"(list 'a)", "list"}, {"list", "(list int)"}, {"(f 'a)", "(f int int)"}, {"(f 'a 'b)", "(f int)"}, {"(f 'a 'b)", "(f int int int)"}, {"(f 'a 'b 'c)", "(f int int)"}, {"f", "(f int int int)"},
		{"(assoc add 'a)", "(assoc show int)"}, {"(assoc add 'a)", "(add int)"}, {"(add 'a)", "(assoc add int)"}, {"(assoc add 'a)", "(dyn add)"}, {"(dyn add)", "(assoc add int)"}, {"(assoc add 'a)", "int"}, {"(list 'a)", "(assoc add (list int))"},
		{"(assoc add (list 'a))", "(assoc add int)"}, {"(assoc add int)", "(assoc add bool)"}, {"(list int)", "(list bool)"}, {"(list (list 'a))", "(list int)"}, {"(list (list 'a))", "(list (box int))"}, {"(list (list 'a))", "(list (list int int))"},
		// The first arguments match.
		{"(pair 'a int)", "(pair int bool)"}, {"(pair 'a (list 'b))", "(pair int (box int))"}, {"(f 'a 'b (dyn a))", "(f int bool (dyn b))"}, {"(f 'a 'b (g 'c 'd int))", "(f int int (g int int bool))"}, {"(pair (pair 'a 'b) int)", "(pair (pair int bool) unit)"},
		// The last arguments match.
		{"(pair int 'a)", "(pair bool int)"}, {"(pair (list 'b) 'a)", "(pair int int)"}, {"(f (dyn a) 'a 'b)", "(f (dyn b) int int)"}, {"(f 'a (list int) 'b)", "(f int (list bool) int)"},
		{"(list (list (list (list (list (list int))))))", "(list (list (list (list (list (list bool))))))"}, {"(list (list (list (list (list (list 'a))))))", "(list (list (list (list (list int)))))"},
	} {
		checkMatchText(t, c[0], c[1], noMatch)
	}
}

func TestMatchOfRepeatedVariables(t *testing.T) {
	for _, c := range []struct{ p, x, want string }{
		{"(pair 'a 'a)", "(pair int int)", "a: int"}, {"(pair 'a 'a)", "(pair int bool)", noMatch}, {"(pair 'a 'a)", "(pair 'b 'b)", "a: 'b"}, {"(pair 'a 'a)", "(pair 'b 'c)", noMatch}, {"(pair 'a 'a)", "(pair 'a 'a)", "a: 'a"},
		{"(pair 'a 'a)", "(pair 'a 'b)", noMatch}, {"(pair 'a 'a)", "(pair 'b 'a)", noMatch}, {"(pair 'a 'a)", "(pair a (dyn a))", noMatch}, {"(pair 'a 'a)", "(pair a 'a)", noMatch}, {"(pair 'a 'a)", "(pair (dyn a) (dyn a))", "a: (dyn a)"},
		{"(pair 'a 'a)", "(pair (list int) (list int))", "a: (list int)"}, {"(pair 'a 'a)", "(pair (list int) (list bool))", noMatch}, {"(pair 'a 'a)", "(pair (list int) (list int int))", noMatch}, {"(pair 'a 'a)", "(pair list (list int))", noMatch},
		{"(pair 'a 'a)", "(pair (list 'a) (list 'b))", noMatch}, {"(pair 'a 'a)", "(pair (assoc a int) (a int))", noMatch}, {"(pair 'a 'a)", "(pair (f int (g bool)) (f int (g bool)))", "a: (f int (g bool))"}, {"(pair 'a 'a)", "(pair (f int (g bool)) (f int (g int)))", noMatch},
		{"(f 'a 'a 'a)", "(f int int int)", "a: int"}, {"(f 'a 'a 'a)", "(f int int bool)", noMatch}, {"(f 'a 'a 'a)", "(f int bool int)", noMatch}, {"(f 'a 'a 'a)", "(f bool int int)", noMatch},
		{"(f 'a 'b 'a)", "(f int bool int)", "a: int, b: bool"}, {"(f 'a 'b 'a)", "(f int bool bool)", noMatch}, {"(f 'a 'b 'a)", "(f int int int)", "a: int, b: int"}, {"(f 'a 'a 'b)", "(f int int bool)", "a: int, b: bool"}, {"(f 'a 'b 'b)", "(f int int bool)", noMatch},
		// The variable stands at different depths.
		{"(pair 'a (list 'a))", "(pair int (list int))", "a: int"}, {"(pair 'a (list 'a))", "(pair int (list bool))", noMatch}, {"(pair (list 'a) 'a)", "(pair (list int) int)", "a: int"}, {"(pair (list 'a) 'a)", "(pair (list int) (list int))", noMatch},
		{"(pair 'a (list 'a))", "(pair (list int) (list int))", noMatch}, {"(pair 'a (list 'a))", "(pair (list int) (list (list int)))", "a: (list int)"}, {"(pair 'a (assoc add 'a))", "(pair 'a (assoc add 'a))", "a: 'a"}, {"(pair (assoc add 'a) 'a)", "(pair (assoc add int) (assoc add int))", noMatch},
		{"(f (g 'a 'b) (g 'b 'a))", "(f (g int bool) (g bool int))", "a: int, b: bool"}, {"(f (g 'a 'b) (g 'b 'a))", "(f (g int bool) (g int bool))", noMatch}, {"(f (g 'a 'b) (g 'b 'a))", "(f (g int int) (g int int))", "a: int, b: int"},
		{"(pair 'a (pair 'a (pair 'a 'a)))", "(pair int (pair int (pair int int)))", "a: int"}, {"(pair 'a (pair 'a (pair 'a 'a)))", "(pair int (pair int (pair int bool)))", noMatch}, {"(pair 'a 'a)", "(pair int int int)", noMatch},
	} {
		checkMatchText(t, c.p, c.x, c.want)
	}
}

func TestMatchBindsInOrderOfFirstOccurrence(t *testing.T) {
	for _, c := range []struct{ p, x, want string }{
		{"(pair 'b 'a)", "(pair int bool)", "b: int, a: bool"}, {"(f 'c 'b 'a)", "(f int bool unit)", "c: int, b: bool, a: unit"}, {"(f 'b 'c 'a)", "(f int bool unit)", "b: int, c: bool, a: unit"}, {"(f 'c 'a 'c)", "(f int bool int)", "c: int, a: bool"},
		{"(f 'a 'a 'b)", "(f int int bool)", "a: int, b: bool"}, {"(f 'b 'a 'b)", "(f int bool int)", "b: int, a: bool"}, {"(pair 'b (list 'a))", "(pair int (list 'z))", "b: int, a: 'z"}, {"(pair (list 'b) 'a)", "(pair (list int) bool)", "b: int, a: bool"},
		{"(pair (list (list 'c)) (pair 'b 'a))", "(pair (list (list int)) (pair bool unit))", "c: int, b: bool, a: unit"}, {"(pair (pair 'd 'c) (pair 'b 'a))", "(pair (pair int int) (pair bool bool))", "d: int, c: int, b: bool, a: bool"},
		{"(pair 'd (pair 'c (pair 'b 'a)))", "(pair int (pair bool (pair unit int)))", "d: int, c: bool, b: unit, a: int"}, {"(pair (pair (pair 'd 'c) 'b) 'a)", "(pair (pair (pair int bool) unit) int)", "d: int, c: bool, b: unit, a: int"},
		{"(f (assoc add 'c) (list (pair 'a 'c)) (list 'b))", "(f (assoc add int) (list (pair bool int)) (list unit))", "c: int, a: bool, b: unit"}, {"(f (g 'c 'b) 'a 'b)", "(f (g 'a 'b) 'c 'b)", "c: 'a, b: 'b, a: 'c"},
	} {
		checkMatchText(t, c.p, c.x, c.want)
	}
}

// A variable of the type is a constant, whether or not the pattern has one of its name.
func TestMatchTakesVariablesOfTheTypeAsConstants(t *testing.T) {
	for _, c := range []struct{ p, x, want string }{
		{"'a", "'a", "a: 'a"}, {"'a", "'b", "a: 'b"}, {"'a", "(list 'a)", "a: (list 'a)"}, {"'a", "(pair 'a 'b)", "a: (pair 'a 'b)"}, {"(list 'a)", "(list (list 'a))", "a: (list 'a)"}, {"(list 'a)", "(list 'a)", "a: 'a"}, {"(assoc add 'a)", "(assoc add 'b)", "a: 'b"},
		{"(pair 'a 'b)", "(pair 'b 'a)", "a: 'b, b: 'a"}, {"(pair 'a 'b)", "(pair 'b 'b)", "a: 'b, b: 'b"}, {"(pair 'a 'b)", "(pair 'a 'a)", "a: 'a, b: 'a"}, {"(pair 'a 'b)", "(pair (list 'b) int)", "a: (list 'b), b: int"}, {"(pair 'a 'b)", "(pair int (list 'a))", "a: int, b: (list 'a)"},
		{"(pair 'a 'a)", "(pair 'a int)", noMatch}, {"(pair 'a 'a)", "(pair int 'a)", noMatch}, {"(pair 'a 'a)", "(pair 'b int)", noMatch}, {"(f 'a 'b 'a)", "(f 'b 'a 'b)", "a: 'b, b: 'a"}, {"(f 'a 'b 'a)", "(f 'b 'a 'a)", noMatch}, {"(f 'a 'b 'c)", "(f 'b 'c 'a)", "a: 'b, b: 'c, c: 'a"},
		{"int", "'a", noMatch}, {"unit", "'a", noMatch}, {"a", "'a", noMatch}, {"(dyn a)", "'a", noMatch}, {"(list 'a)", "'a", noMatch}, {"(assoc add 'a)", "'a", noMatch}, {"(list 'a)", "'b", noMatch}, {"(assoc a 'a)", "'a", noMatch},
		{"(list int)", "(list 'a)", noMatch}, {"(list (list 'a))", "(list 'a)", noMatch}, {"(list (dyn a))", "(list 'a)", noMatch}, {"(pair 'a int)", "(pair int 'a)", noMatch}, {"(pair 'a int)", "(pair 'a 'a)", noMatch}, {"(assoc add (list 'a))", "(assoc add 'a)", noMatch},
	} {
		checkMatchText(t, c.p, c.x, c.want)
	}
}

func TestMatchAll(t *testing.T) {
	for _, c := range []struct{ p, all, want string }{
		{"", "", ""}, {"int", "int", ""}, {"int", "bool", noMatch}, {"'a", "int", "a: int"}, {"int", "'a", noMatch}, {"int,bool", "int,bool", ""}, {"int,bool", "bool,int", noMatch}, {"int,bool", "int,int", noMatch}, {"int,'a", "int,bool", "a: bool"},
		{"'a,'b", "int,bool", "a: int, b: bool"}, {"'b,'a", "int,bool", "b: int, a: bool"}, {"'a,'b", "int,int", "a: int, b: int"}, {"'a,'b", "'b,'a", "a: 'b, b: 'a"}, {"'b,(list 'a),'c", "'a,(list int),(dyn a)", "b: 'a, a: int, c: (dyn a)"},
		{"'a,'a", "int,int", "a: int"}, {"'a,'a", "int,bool", noMatch}, {"'a,'a", "'b,'b", "a: 'b"}, {"'a,'a", "'a,'b", noMatch}, {"'a,'a", "'b,'a", noMatch}, {"'a,int,'a", "bool,int,bool", "a: bool"}, {"'a,int,'a", "bool,int,int", noMatch},
		{"'a,(list 'a)", "int,(list int)", "a: int"}, {"'a,(list 'a)", "int,(list bool)", noMatch}, {"(list 'a),'a", "(list int),int", "a: int"}, {"(list 'a),'a", "(list int),(list int)", noMatch}, {"'a,'a,'a", "int,int,bool", noMatch}, {"'a,'a,'a", "(f 'a),(f 'a),(f 'a)", "a: (f 'a)"},
		{"(pair 'b 'a),'c,(pair 'a 'b)", "(pair int bool),unit,(pair bool int)", "b: int, a: bool, c: unit"}, {"(pair 'b 'a),'c,(pair 'a 'b)", "(pair int bool),unit,(pair int bool)", noMatch}, {"(assoc add 'c),'b,'a", "(assoc add 'c),'c,'c", "c: 'c, b: 'c, a: 'c"},
		{"'a,(f 'b),int", "int,(f int),bool", noMatch}, {"int,'a,'b", "bool,int,int", noMatch}, {"'a,(list 'b),'c", "int,(box int),int", noMatch}, {"(f 'a 'b),(g 'b 'c)", "(f int bool),(g bool unit)", "a: int, b: bool, c: unit"}, {"(f 'a 'b),(g 'b 'c)", "(f int bool),(g int unit)", noMatch},
		// Slices that differ in length, although what there is on both sides matches.
		{"'a", "", noMatch}, {"", "int", noMatch}, {"'a", "int,int", noMatch}, {"'a,'b", "int", noMatch}, {"'a,'a", "int", noMatch}, {"'a,'a", "int,int,int", noMatch}, {"int", "int,int", noMatch}, {"int,int", "int", noMatch}, {"", "'a,'b", noMatch}, {"'a,'b", "", noMatch},
	} {
		checkMatchText(t, c.p, c.all, c.want)
	}
}

func TestMatchAllOfNothing(t *testing.T) {
	empty := make([]impl.Type, 0, 4)
	for _, p := range [][]impl.Type{nil, {}, empty} {
		for _, all := range [][]impl.Type{nil, {}, empty} {
			checkMatchAll(t, p, all, nil, true)
		}
		for _, some := range [][]impl.Type{{variable("a")}, {constructor("int")}, {{}}, {{}, {}}} {
			checkMatchAll(t, p, some, nil, false)
			checkMatchAll(t, some, p, nil, false)
		}
	}
	// A slice of patterns is not the pattern that has them as its arguments.
	a := []impl.Type{variable("a")}
	checkMatchAll(t, a, []impl.Type{{Args: a}}, []impl.Binding{bind("a", impl.Type{Args: a})}, true)
	checkMatchAll(t, []impl.Type{{Args: a}}, a, nil, false)
}

// Whatever the difference is and wherever it stands, no binding made before it is left.
func TestNothingOfAPartialMatchIsLeft(t *testing.T) {
	p := typesIn(t, "'a,(pair 'b (list 'c)),(assoc add 'a),int,'d,(dyn show),(f 'b 'e 'e)")
	all := typesIn(t, "int,(pair bool (list 'c)),(assoc add int),int,(list unit),(dyn show),(f bool (g int) (g int))")
	checkMatchAll(t, p, all, bindingsIn(t, "a: int, b: bool, c: 'c, d: (list unit), e: (g int)"), true)
	for i := range p {
		checkMatchAll(t, p[:i], all, nil, false)
		checkMatchAll(t, p, all[:i], nil, false)
	}
	failed := 0
	cells := cellsOfTypes(all)
	for _, cell := range cells {
		whole := *cell
		for _, x := range []impl.Type{{}, variable("x"), constructor("x"), dyn("x"), constructor("x", whole), {Kind: whole.Kind, Name: whole.Name, Args: append(slices.Clone(whole.Args), whole)}} {
			*cell = x
			list, ok := matchByPlaces(p, all)
			checkMatchAll(t, p, all, list, ok)
			if !ok {
				failed++
			}
		}
		*cell = whole
	}
	if failed < 70 || failed == 6*len(cells) {
		t.Errorf("%d of %d changed lists of types do not match", failed, 6*len(cells))
	}
}

func TestMatchOfInvalidTypes(t *testing.T) {
	a, b, n := variable("a"), variable("b"), constructor("int")
	withArgs := typeWith(1, "a", 2, b)
	for _, c := range []struct {
		p, x impl.Type
		want []impl.Binding
		ok   bool
	}{
		// Of a kind that is none of the four, types match if they are the same or their arguments match.
		{impl.Type{}, impl.Type{}, nil, true}, {impl.Type{}, impl.Type{Args: []impl.Type{}}, nil, true}, {impl.Type{Kind: 5, Name: "a"}, impl.Type{Kind: 5, Name: "a"}, nil, true}, {impl.Type{Kind: 5, Name: "a"}, impl.Type{Kind: 6, Name: "a"}, nil, false},
		{impl.Type{Kind: 5, Name: "a"}, impl.Type{Kind: 5, Name: "b"}, nil, false}, {impl.Type{Name: "a"}, a, nil, false}, {impl.Type{}, n, nil, false}, {n, impl.Type{Name: "int"}, nil, false}, {impl.Type{Kind: 1 + 1<<32, Name: "a"}, n, nil, false},
		{typeWith(0, "f", 2, a), typeWith(0, "f", 2, n), []impl.Binding{bind("a", n)}, true}, {typeWith(-1, "", 4, a), typeWith(-1, "", 4, b), []impl.Binding{bind("a", b)}, true}, {typeWith(0, "f", 2, a), typeWith(0, "f", 3, a), nil, false},
		{a, impl.Type{}, []impl.Binding{bind("a", impl.Type{})}, true}, {a, typeWith(7, "A", 5, a), []impl.Binding{bind("a", typeWith(7, "A", 5, a))}, true}, {constructor("pair", a, a), constructor("pair", impl.Type{}, impl.Type{Kind: 5}), nil, false},
		{constructor("pair", a, a), constructor("pair", impl.Type{Kind: 5}, impl.Type{Kind: 5}), []impl.Binding{bind("a", impl.Type{Kind: 5})}, true}, {constructor("pair", a, a), constructor("pair", withArgs, typeWith(1, "a", 2, a)), nil, false},
		// Apply replaces a variable together with its arguments, so that they match everything and bind nothing.
		{withArgs, n, []impl.Binding{bind("a", n)}, true}, {withArgs, withArgs, []impl.Binding{bind("a", withArgs)}, true}, {a, withArgs, []impl.Binding{bind("a", withArgs)}, true}, {withArgs, typeWith(2, "f", 2, n), []impl.Binding{bind("a", typeWith(2, "f", 2, n))}, true},
		{constructor("pair", withArgs, a), constructor("pair", n, n), []impl.Binding{bind("a", n)}, true}, {constructor("pair", withArgs, a), constructor("pair", n, b), nil, false}, {constructor("pair", withArgs, b), constructor("pair", n, b), []impl.Binding{bind("a", n), bind("b", b)}, true},
		{n, withArgs, nil, false}, {constructor("a", b, b), withArgs, nil, false}, {constructor("list", a), typeWith(1, "list", 1, n), nil, false},
		// Names that are not valid are names like any other.
		{variable(""), n, []impl.Binding{bind("", n)}, true}, {variable("int"), constructor("int"), []impl.Binding{bind("int", n)}, true}, {variable("?0"), variable("?1"), []impl.Binding{bind("?0", variable("?1"))}, true}, {variable("'a"), a, []impl.Binding{bind("'a", a)}, true},
		{constructor("f", variable("A"), variable(""), variable("A")), constructor("f", n, a, n), []impl.Binding{bind("A", n), bind("", a)}, true}, {constructor("f", variable("A"), variable("a"), variable("A")), constructor("f", n, a, a), nil, false},
		{constructor("", a), constructor("", n), []impl.Binding{bind("a", n)}, true}, {constructor("A"), constructor("a"), nil, false}, {dyn("int"), dyn("int"), nil, true}, {dyn(""), constructor(""), nil, false}, {constructor("assoc", a), projection("assoc", n), nil, false},
		// Numbers of arguments that the kind doesn't permit.
		{projection("add"), projection("add"), nil, true}, {projection("add", a, b), projection("add", b, a), []impl.Binding{bind("a", b), bind("b", a)}, true}, {projection("add", a, a), projection("add", n), nil, false}, {typeWith(4, "show", 1, a), dyn("show"), nil, false},
		{typeWith(4, "show", 1, a), typeWith(4, "show", 1, n), []impl.Binding{bind("a", n)}, true}, {constructor("int", a), constructor("int", n), []impl.Binding{bind("a", n)}, true}, {n, constructor("int", a), nil, false}, {typeWith(2, "f", 5, a), typeWith(2, "f", 5, n), []impl.Binding{bind("a", n)}, true},
		// Sizes and depths beyond the limits.
		{nestType(a, 40), nestType(a, 41), []impl.Binding{bind("a", constructor("list", a))}, true}, {nestType(a, 41), nestType(a, 40), nil, false}, {typeOfSize(200), typeOfSize(200), nil, true}, {typeOfSize(200), typeOfSize(199), nil, false},
	} {
		checkMatch(t, c.p, c.x, c.want, c.ok)
		checkMatchAll(t, []impl.Type{c.p}, []impl.Type{c.x}, c.want, c.ok)
		checkMatchAll(t, []impl.Type{impl.Type{}, constructor("list", c.p)}, []impl.Type{impl.Type{}, constructor("list", c.x)}, c.want, c.ok)
	}
}

// Valid and invalid types in one another, each as the pattern and as the type.
func TestMatchOfAllKinds(t *testing.T) {
	all := append(validTypes(), invalidTypes()...)
	for _, p := range all {
		for _, x := range all {
			want, ok := matchByPlaces([]impl.Type{p}, []impl.Type{x})
			checkMatch(t, p, x, want, ok)
		}
	}
	around := insideValidTypes(variable("b"))
	for _, x := range all {
		for i, y := range insideValidTypes(x) {
			for _, p := range []impl.Type{around[i], y, around[(i+1)%len(around)]} {
				want, ok := matchByPlaces([]impl.Type{p}, []impl.Type{y})
				checkMatch(t, p, y, want, ok)
				want, ok = matchByPlaces([]impl.Type{p, x}, []impl.Type{y, variable("b")})
				checkMatchAll(t, []impl.Type{p, x}, []impl.Type{y, variable("b")}, want, ok)
			}
		}
	}
}

func TestEverySmallMatch(t *testing.T) {
	var valid, all []impl.Type
	for size := 1; size <= 3; size++ {
		for _, x := range typesOfSize([]string{"a", "b"}, size) {
			if rulesByDefinition(x) {
				valid = append(valid, x)
			}
		}
		all = append(all, typesOfSize([]string{"a"}, size)...)
	}
	all = append(all, typesOfSize([]string{"b"}, 1)...)
	for _, types := range [][]impl.Type{valid, all} {
		for _, p := range types {
			for _, x := range types {
				want, ok := matchByDefinition(t, []impl.Type{p}, []impl.Type{x})
				checkMatch(t, p, x, want, ok)
			}
		}
	}
}

func TestEverySmallMatchAll(t *testing.T) {
	types := typesIn(t, "'a,'b,int,(list 'a),(list 'b),(pair 'b 'a),(list (list 'a)),(assoc add 'a),(list int)")
	lists := [][]impl.Type{nil}
	for i, x := range types {
		lists = append(lists, []impl.Type{x})
		for j, y := range types {
			lists = append(lists, []impl.Type{x, y})
			for _, z := range types[:4] {
				if i < 5 && j < 3 {
					lists = append(lists, []impl.Type{x, y, z})
				}
			}
		}
	}
	for _, p := range lists {
		for _, all := range lists {
			want, ok := matchByDefinition(t, p, all)
			checkMatchAll(t, p, all, want, ok)
		}
	}
}

// A substitution that was applied to patterns is found again, in the order of the patterns' variables.
func TestMatchFindsTheSubstitution(t *testing.T) {
	random := rand.New(rand.NewSource(7))
	variables := 0
	for i := range 20000 {
		var p, all []impl.Type
		for range 1 + random.Intn(3) {
			p = append(p, randomType(random, random.Intn(5), i%2 == 0))
		}
		var want []impl.Binding
		for _, v := range replacedVariables(p) {
			want = append(want, bind(v, randomType(random, random.Intn(3), i%3 == 0)))
		}
		for _, x := range p {
			all = append(all, applyByDefinition(want, x))
		}
		variables += len(want)
		checkMatchAll(t, p, all, want, true)
		if len(p) == 1 {
			checkMatch(t, p[0], all[0], want, true)
		}
	}
	if variables < 20000 {
		t.Errorf("20000 lists of patterns have %d variables", variables)
	}
}

func TestRandomMatches(t *testing.T) {
	random := rand.New(rand.NewSource(77))
	matching, bound := 0, 0
	for i := range 40000 {
		var p, all []impl.Type
		for range 1 + random.Intn(3) {
			p = append(p, randomType(random, random.Intn(4), i%2 == 0))
		}
		list := []impl.Binding{bind("a", randomType(random, random.Intn(3), true)), bind("b", randomType(random, random.Intn(3), true)), bind("c", variable("a"))}
		for _, x := range p {
			all = append(all, applyByDefinition(list, x))
		}
		for range random.Intn(3) {
			cells := cellsOfTypes(all)
			*cells[random.Intn(len(cells))] = randomType(random, random.Intn(2), i%2 == 0)
		}
		want, ok := matchByPlaces(p, all)
		checkMatchAll(t, p, all, want, ok)
		if ok {
			matching, bound = matching+1, bound+len(want)
		}
	}
	if matching < 10000 || matching > 35000 || bound < 10000 {
		t.Errorf("%d of 40000 lists of types match, with %d variables", matching, bound)
	}
}

func TestMatchLeavesItsArguments(t *testing.T) {
	p, slots := typesWithRoom()
	x, others := typesWithRoom()
	patterns := []impl.Type{p, variable("a"), variable("c"), p, variable("spare")}
	types := []impl.Type{x, variable("a"), x, x, variable("spare")}
	slots = append(append(slots, others...), patterns, types)
	defer unchanged(t, slots)()
	for length := range 4 {
		for other := range 4 {
			want, ok := matchByPlaces(patterns[:length], types[:other])
			checkMatchAll(t, patterns[:length], types[:other], want, ok)
		}
	}
	checkMatchAll(t, patterns[:3], types[:3], []impl.Binding{bind("b", variable("b")), bind("a", variable("a")), bind("c", x)}, true)
}

// sharingMatch returns patterns and types that match and whose parts share memory with one another.
func sharingMatch() ([]impl.Type, []impl.Type) {
	value := constructor("pair", variable("a"), projection("add", variable("c")))
	whole := constructor("f", value, constructor("list", value), value)
	a, b := variable("a"), variable("b")
	return []impl.Type{constructor("f", a, b, variable("c")), variable("d"), value, b}, []impl.Type{whole, whole, constructor("pair", value, projection("add", value)), whole.Args[1]}
}

// checkNewMemory wants all memory of the results to be different from one another and from that of the arguments.
func checkNewMemory(t *testing.T, arguments []impl.Type, results ...[]impl.Binding) {
	t.Helper()
	// The memory of the arguments counts once, although they share it.
	given := map[*impl.Type]bool{}
	for _, cell := range cellsOfTypes(arguments) {
		given[cell] = true
	}
	cells := slices.Collect(maps.Keys(given))
	var places []*impl.Binding
	for _, list := range results {
		for i := range list {
			places = append(places, &list[i])
			cells = append(cells, cellsOfTypes(list[i].Type.Args)...)
		}
	}
	if !allDifferent(cells) || !allDifferent(places) {
		t.Error("results share memory with each other, within themselves or with their arguments")
	}
}

func TestMatchReturnsNewMemory(t *testing.T) {
	p, all := sharingMatch()
	var results [][]impl.Binding
	for range 2 {
		one, ok := impl.Match(p[0], all[0])
		two, found := impl.MatchAll(p, all)
		if !ok || !found || len(one) != 3 || len(two) != 4 {
			t.Fatalf("Match or MatchAll is wrong on types that share memory: %v, %v", one, two)
		}
		results = append(results, one, two)
	}
	checkNewMemory(t, slices.Concat(p, all), results...)
}

func TestChangedArgumentsLeaveAMatch(t *testing.T) {
	p, all := sharingMatch()
	one, _ := impl.Match(p[0], all[0])
	two, _ := impl.MatchAll(p, all)
	for _, cell := range cellsOfTypes(p, all) {
		*cell = variable("changed")
	}
	const pair = "(pair 'a (assoc add 'c))"
	for i, text := range []string{pair, "(list " + pair + ")", pair, "(f " + pair + " (list " + pair + ") " + pair + ")"} {
		want := bind(string(rune('a'+i)), typesIn(t, text)[0])
		if i < len(one) && !sameBindings(one[i:i+1], []impl.Binding{want}) || !sameBindings(two[i:i+1], []impl.Binding{want}) {
			t.Errorf("a result shares memory with an argument: %v, %v, want %v", one, two[i], want)
		}
	}
}

// An empty slice of an argument has memory too, if it has capacity.
func TestEmptySlicesInAMatchAreNew(t *testing.T) {
	room := make([]impl.Type, 1, 4)
	empty := impl.Type{Kind: 2, Name: "unit", Args: room[:0]}
	one, _ := impl.Match(variable("a"), empty)
	two, _ := impl.MatchAll(typesIn(t, "'a,(list 'b)"), []impl.Type{empty, constructor("list", empty)})
	for _, b := range append(one, two...) {
		b.Type.Args = append(b.Type.Args, variable("changed"))
	}
	for _, x := range room[:cap(room)] {
		if !sameType(x, impl.Type{}) {
			t.Errorf("a result shares the unused capacity of an argument: %v", x)
		}
	}
}

// These functions have no limits of their own, so that neither depth, width nor the number of variables may exhaust anything.
func TestMatchFarBeyondTheLimits(t *testing.T) {
	const depth, width = 1000000, 200000
	a, n := variable("a"), constructor("int")
	deep, other := nestType(a, depth), nestType(n, depth)
	if list, ok := impl.Match(deep, other); !ok || !sameBindings(list, []impl.Binding{bind("a", n)}) || impl.Matches(other, deep) || impl.Matches(other, nestType(dyn("int"), depth)) {
		t.Errorf("a wrong answer about deep types: %v", list)
	}
	if list, ok := impl.Match(a, deep); !ok || len(list) != 1 || !impl.EqualType(list[0].Type, deep) || impl.Matches(deep, a) {
		t.Error("a wrong answer about a variable and a deep type")
	}
	if !impl.Matches(constructor("pair", a, a), constructor("pair", deep, nestType(a, depth))) || impl.Matches(constructor("pair", a, a), constructor("pair", deep, other)) {
		t.Error("a wrong answer about a variable that occurs twice and deep types")
	}
	var p, all []impl.Type
	var want []impl.Binding
	for i := range width {
		v := "a" + strconv.Itoa(i)
		p, all = append(p, variable(v)), append(all, constructor("list", variable(v)))
		want = append(want, bind(v, all[i]))
	}
	if list, ok := impl.MatchAll(append(p, p...), append(all, all...)); !ok || !impl.EqualBindings(list, want) {
		t.Error("a wrong answer about many variables")
	}
	if list, ok := impl.MatchAll(append(p, p...), append(all, p...)); ok || list != nil || impl.Matches(constructor("f", p...), constructor("f", all[1:]...)) {
		t.Error("a wrong answer about many variables and types that do not match them")
	}
}

// Only functions that leave alone what they are not asked for come to an end on these.
func TestMatchWithoutBounds(t *testing.T) {
	doubled, loop := variable("a"), make([]impl.Type, 1)
	for range 100 {
		doubled = constructor("pair", doubled, doubled)
	}
	loop[0] = impl.Type{Kind: impl.TypeProjection, Name: "add", Args: loop}
	a, n := variable("a"), constructor("int")
	for i, x := range []impl.Type{doubled, loop[0], constructor("list", loop[0])} {
		if !impl.Matches(a, x) || impl.Matches(x, a) || impl.Matches(x, n) || impl.Matches(n, x) || !impl.Matches(constructor("pair", a, variable("b")), constructor("pair", x, x)) {
			t.Errorf("Matches is wrong with type %d", i)
		}
		for _, c := range [][2]impl.Type{{constructor("pair", a, n), constructor("pair", x, a)}, {constructor("f", a, a), constructor("f", n, x)}, {constructor("f", a, a), constructor("f", x, n)}, {constructor("f", a, x), constructor("f", x, n)}, {nestType(x, 3), nestType(n, 4)}} {
			if list, ok := impl.Match(c[0], c[1]); ok || list != nil {
				t.Errorf("Match finds a substitution with type %d: %.300v", i, list)
			}
		}
		if list, ok := impl.MatchAll([]impl.Type{a, x}, []impl.Type{x}); ok || list != nil {
			t.Errorf("MatchAll finds a substitution for slices of different lengths with type %d", i)
		}
		if list, ok := impl.Match(constructor("f", a, typeWith(1, "b", 1, x)), constructor("f", n, a)); !ok || !sameBindings(list, []impl.Binding{bind("a", n), bind("b", a)}) {
			t.Errorf("Match looks into the arguments of a variable of the pattern with type %d: %v", i, list)
		}
	}
}

// Two types that have their parts in common, or that contain themselves, have only so many pairs of places that differ.
func TestMatchOfTypesThatBothHaveNoBounds(t *testing.T) {
	doubled := func(x, y impl.Type) impl.Type {
		out := constructor("f", x, y)
		for range 100 {
			out = constructor("f", out, out)
		}
		return out
	}
	looped := func(x, y impl.Type) impl.Type {
		args := make([]impl.Type, 3)
		args[0], args[1], args[2] = x, y, impl.Type{Kind: 2, Name: "f", Args: args}
		return args[2]
	}
	a, b, n, d := variable("a"), variable("b"), constructor("int"), dyn("show")
	for i, endless := range []func(x, y impl.Type) impl.Type{doubled, looped} {
		for j, c := range []struct {
			p, x impl.Type
			want []impl.Binding
			ok   bool
		}{
			{endless(n, d), endless(n, d), nil, true}, {endless(n, d), endless(d, n), nil, false}, {endless(a, d), endless(n, d), []impl.Binding{bind("a", n)}, true}, {endless(b, a), endless(n, d), []impl.Binding{bind("b", n), bind("a", d)}, true}, {endless(a, a), endless(n, n), []impl.Binding{bind("a", n)}, true}, {endless(a, a), endless(n, d), nil, false},
			{constructor("f", a, endless(n, a)), constructor("f", d, endless(n, d)), []impl.Binding{bind("a", d)}, true}, {constructor("f", a, endless(n, a)), constructor("f", d, endless(n, b)), nil, false}, {constructor("f", endless(n, a), a), constructor("f", endless(n, d), n), nil, false}, {endless(b, a), endless(a, b), []impl.Binding{bind("b", a), bind("a", b)}, true}, {endless(n, d), endless(n, a), nil, false},
		} {
			list, ok := impl.Match(c.p, c.x)
			if ok != c.ok || !sameBindings(list, c.want) || impl.Matches(c.p, c.x) != c.ok {
				t.Errorf("Match is wrong on types %d in case %d: %v, %v", i, j, list, ok)
			}
		}
		// The values of the variable are types of that kind, which are compared but not returned.
		if whole := endless(n, d); !impl.Matches(constructor("f", a, a), constructor("f", whole, endless(n, d))) || impl.Matches(constructor("f", a, a), constructor("f", whole, endless(n, n))) || impl.Matches(constructor("f", a, a, a), constructor("f", whole, whole, endless(d, d))) {
			t.Errorf("Matches is wrong on a variable that occurs twice and types %d", i)
		}
	}
	if !impl.Matches(looped(a, b), constructor("f", n, d, looped(n, d))) || impl.Matches(looped(a, b), constructor("f", n, d, looped(d, n))) || impl.Matches(looped(n, d), doubled(n, d)) {
		t.Error("Matches is wrong on a type that contains itself and one that doesn't")
	}
}
