package tests

import (
	"maps"
	"math/rand"
	"reflect"
	"slices"
	"strconv"
	"strings"
	"testing"

	"loop.example/g00508/impl"
)

func bind(v string, t impl.Type) impl.Binding { return impl.Binding{Var: v, Type: t} }

// typesIn reads types from a text such as "'a, (list int)".
func typesIn(t *testing.T, text string) []impl.Type {
	t.Helper()
	var types []impl.Type
	for part := range strings.SplitSeq(text, ",") {
		if part == "" {
			continue
		}
		x, ok := impl.ParseType(part)
		if !ok {
			t.Fatalf("%q is not a type", part)
		}
		types = append(types, x)
	}
	return types
}

// bindingsIn reads bindings from a text such as "a: int, b: (list 'a)".
func bindingsIn(t *testing.T, text string) []impl.Binding {
	t.Helper()
	var list []impl.Binding
	for part := range strings.SplitSeq(text, ",") {
		if v, x, ok := strings.Cut(part, ":"); ok {
			list = append(list, bind(strings.TrimSpace(v), typesIn(t, x)[0]))
		}
	}
	return list
}

func lookupByDefinition(list []impl.Binding, v string) (impl.Type, bool) {
	for _, b := range list {
		if b.Var == v {
			return copyType(b.Type), true
		}
	}
	return impl.Type{}, false
}

func applyByDefinition(list []impl.Binding, t impl.Type) impl.Type {
	if value, ok := lookupByDefinition(list, t.Name); ok && t.Kind == 1 {
		return value
	}
	out := impl.Type{Kind: t.Kind, Name: t.Name}
	for _, arg := range t.Args {
		out.Args = append(out.Args, applyByDefinition(list, arg))
	}
	return out
}

func restrictByDefinition(list []impl.Binding, vars []string) []impl.Binding {
	var kept []impl.Binding
	for _, b := range copyBindings(list) {
		if slices.Contains(vars, b.Var) {
			kept = append(kept, b)
		}
	}
	return kept
}

func validSubstitutionByDefinition(list []impl.Binding) bool {
	for i, b := range list {
		if !namePattern.MatchString(b.Var) || slices.Contains(keywords, b.Var) || !validByDefinition(b.Type) {
			return false
		}
		for _, earlier := range list[:i] {
			if earlier.Var == b.Var {
				return false
			}
		}
	}
	return true
}

// copyBindings copies list so that the two share no memory; what is empty is nil in the copy.
func copyBindings(list []impl.Binding) []impl.Binding {
	var out []impl.Binding
	for _, b := range list {
		out = append(out, bind(b.Var, copyType(b.Type)))
	}
	return out
}

func sameBindings(a, b []impl.Binding) bool {
	return reflect.DeepEqual(copyBindings(a), copyBindings(b))
}

func sameTypes(a, b []impl.Type) bool { return slices.EqualFunc(a, b, sameType) }

// checkSubstitution compares every answer about list with its definition.
func checkSubstitution(t *testing.T, list []impl.Binding, vars []string, types []impl.Type) {
	t.Helper()
	if got, want := impl.IsValidSubstitution(list), validSubstitutionByDefinition(list); got != want {
		t.Errorf("IsValidSubstitution(%.300v) = %v", list, got)
	}
	for _, v := range vars {
		got, ok := impl.Lookup(list, v)
		if want, bound := lookupByDefinition(list, v); ok != bound || !sameType(got, want) {
			t.Errorf("Lookup(%.300v, %q) = %.300v, %v, want %v, %v", list, v, got, ok, want, bound)
		}
	}
	if got, want := impl.RestrictTo(list, vars), restrictByDefinition(list, vars); !sameBindings(got, want) {
		t.Errorf("RestrictTo(%.300v, %q) = %.300v, want %.300v", list, vars, got, want)
	}
	if !impl.EqualBindings(list, copyBindings(list)) {
		t.Errorf("EqualBindings is false of %.300v and its copy", list)
	}
	checkApplied(t, list, types)
}

func checkApplied(t *testing.T, list []impl.Binding, types []impl.Type) {
	t.Helper()
	var all []impl.Type
	for _, x := range types {
		want := applyByDefinition(list, x)
		if got := impl.Apply(list, x); !sameType(got, want) {
			t.Errorf("Apply(%.300v, %.300v) = %.300v, want %.300v", list, x, got, want)
		}
		all = append(all, want)
	}
	if got := impl.ApplyAll(list, types); !sameTypes(got, all) {
		t.Errorf("ApplyAll(%.300v, %.300v) = %.300v, want %.300v", list, types, got, all)
	}
}

func TestApply(t *testing.T) {
	for _, c := range []struct{ list, x, want string }{
		{"", "'a", "'a"}, {"", "int", "int"}, {"", "(dyn a)", "(dyn a)"}, {"", "(f 'a (assoc add 'b) (dyn c))", "(f 'a (assoc add 'b) (dyn c))"},
		{"a: int", "'a", "int"}, {"a: int", "'b", "'b"}, {"a: 'b", "'a", "'b"}, {"a: 'a", "'a", "'a"}, {"a: bool", "'aa", "'aa"}, {"aa: bool", "'a", "'a"},
		{"a: int", "bool", "bool"}, {"a: int", "a", "a"}, {"a: int", "(dyn a)", "(dyn a)"}, {"a: int", "(a 'b)", "(a 'b)"}, {"a: int", "(assoc a 'b)", "(assoc a 'b)"},
		{"a: int", "(a 'a)", "(a int)"}, {"a: int", "(assoc a 'a)", "(assoc a int)"}, {"a: int", "(pair 'a 'a)", "(pair int int)"}, {"a: int", "(f 'b 'a 'c)", "(f 'b int 'c)"},
		{"a: (list 'b)", "(list 'a)", "(list (list 'b))"}, {"a: (dyn show)", "(list 'a)", "(list (dyn show))"}, {"a: (dyn a)", "(assoc add 'a)", "(assoc add (dyn a))"},
		{"a: (assoc add int)", "(pair 'a (list 'a))", "(pair (assoc add int) (list (assoc add int)))"}, {"a: unit", "(assoc add (assoc sub 'a))", "(assoc add (assoc sub unit))"},
		{"a: int, b: bool", "(pair 'a 'b)", "(pair int bool)"}, {"a: int, b: bool", "(pair 'b 'a)", "(pair bool int)"}, {"b: bool, a: int", "(f 'a 'c 'b)", "(f int 'c bool)"},
		{"a: (list 'b), b: int", "(pair 'a (assoc add 'b))", "(pair (list 'b) (assoc add int))"}, {"a: int, b: bool, c: unit", "(f 'c (list 'b) (assoc add (pair 'a 'd)))", "(f unit (list bool) (assoc add (pair int 'd)))"},
		{"list: int", "(list 'list)", "(list int)"}, {"self: (list 'a)", "(pair 'self (assoc item 'self))", "(pair (list 'a) (assoc item (list 'a)))"},
		{"a: int", "(list (list (list (list (list (list 'a))))))", "(list (list (list (list (list (list int))))))"}, {"v0: v0, v1: 'v0", "(pair 'v1 'v0)", "(pair 'v0 v0)"},
	} {
		list, types := bindingsIn(t, c.list), typesIn(t, c.x)
		if got := impl.Apply(list, types[0]); impl.FormatType(got) != c.want {
			t.Errorf("Apply(%s; %s) = %v, want %s", c.list, c.x, got, c.want)
		}
		checkSubstitution(t, list, []string{"a", "b"}, types)
	}
}

// What is put in place of a variable is not substituted again, whichever way the bindings refer to each other.
func TestApplyIsSimultaneous(t *testing.T) {
	for _, c := range []struct{ list, x, want string }{
		{"a: (list 'b), b: int", "(pair 'a 'b)", "(pair (list 'b) int)"}, {"b: int, a: (list 'b)", "(pair 'a 'b)", "(pair (list 'b) int)"}, {"a: (list 'b), b: int", "(pair 'b 'a)", "(pair int (list 'b))"},
		{"a: 'b, b: 'a", "(pair 'a 'b)", "(pair 'b 'a)"}, {"b: 'a, a: 'b", "(pair 'a 'b)", "(pair 'b 'a)"}, {"a: 'b, b: 'a", "(f 'b 'a 'b)", "(f 'a 'b 'a)"}, {"a: 'b, b: 'a", "'a", "'b"},
		{"a: 'b, b: 'c, c: 'a", "(f 'a 'b 'c)", "(f 'b 'c 'a)"}, {"c: 'a, b: 'c, a: 'b", "(f 'a 'b 'c)", "(f 'b 'c 'a)"}, {"a: 'b, b: 'c, c: int", "'a", "'b"}, {"c: int, b: 'c, a: 'b", "'a", "'b"},
		{"a: (list 'a)", "'a", "(list 'a)"}, {"a: (list 'a)", "(pair 'a 'a)", "(pair (list 'a) (list 'a))"}, {"a: (pair 'a 'a)", "(list 'a)", "(list (pair 'a 'a))"}, {"a: (assoc add 'a)", "(assoc add 'a)", "(assoc add (assoc add 'a))"},
		{"a: (pair 'a 'b), b: (pair 'b 'a)", "(pair 'a 'b)", "(pair (pair 'a 'b) (pair 'b 'a))"}, {"a: (list 'b), b: (list 'a)", "(f (list 'a) 'b 'a)", "(f (list (list 'b)) (list 'a) (list 'b))"},
		{"a: (assoc add 'b), b: int", "(list 'a)", "(list (assoc add 'b))"}, {"a: (pair (list 'b) 'c), b: int, c: 'a", "(f 'a 'b 'c)", "(f (pair (list 'b) 'c) int 'a)"},
	} {
		list, types := bindingsIn(t, c.list), typesIn(t, c.x)
		if got := impl.Apply(list, types[0]); impl.FormatType(got) != c.want {
			t.Errorf("Apply(%s; %s) = %v, want %s", c.list, c.x, got, c.want)
		}
		if got := impl.ApplyAll(list, types); len(got) != 1 || impl.FormatType(got[0]) != c.want {
			t.Errorf("ApplyAll(%s; %s) = %v, want %s", c.list, c.x, got, c.want)
		}
	}
}

func TestFirstBindingOfAVariableCounts(t *testing.T) {
	for _, c := range []struct{ list, want string }{
		{"a: int, a: bool", "int"}, {"a: bool, a: int", "bool"}, {"b: unit, a: int, a: bool", "int"}, {"a: int, b: unit, a: bool", "int"}, {"a: int, a: bool, a: unit", "int"},
		{"a: 'a, a: int", "'a"}, {"a: 'b, b: int, a: bool", "'b"}, {"a: (list 'a), a: int", "(list 'a)"}, {"b: 'a, a: (dyn show), a: 'a, b: int", "(dyn show)"},
	} {
		list := bindingsIn(t, c.list)
		if got, ok := impl.Lookup(list, "a"); !ok || impl.FormatType(got) != c.want {
			t.Errorf("Lookup(%s; a) = %v, %v, want %s", c.list, got, ok, c.want)
		}
		if got := impl.Apply(list, constructor("list", variable("a"))); impl.FormatType(got) != "(list "+c.want+")" {
			t.Errorf("Apply(%s; (list 'a)) = %v", c.list, got)
		}
		if impl.IsValidSubstitution(list) {
			t.Errorf("IsValidSubstitution(%s) = true", c.list)
		}
		checkSubstitution(t, list, []string{"a", "b"}, typesIn(t, "'a,'b,(pair 'a 'b)"))
	}
}

func TestLookup(t *testing.T) {
	list := bindingsIn(t, "a: int, b: (pair 'a (assoc add 'c)), abc: (dyn show)")
	for v, want := range map[string]string{"a": "int", "b": "(pair 'a (assoc add 'c))", "abc": "(dyn show)"} {
		if got, ok := impl.Lookup(list, v); !ok || impl.FormatType(got) != want {
			t.Errorf("Lookup(%q) = %v, %v, want %s", v, got, ok, want)
		}
	}
	for _, v := range []string{"", "c", "ab", "abcd", "A", "'a", "int", "pair", "add", "show", "a "} {
		if got, ok := impl.Lookup(list, v); ok || !sameType(got, impl.Type{}) {
			t.Errorf("Lookup(%q) = %v, %v", v, got, ok)
		}
	}
	for _, empty := range [][]impl.Binding{nil, {}} {
		if got, ok := impl.Lookup(empty, "a"); ok || !sameType(got, impl.Type{}) {
			t.Errorf("Lookup in no bindings = %v, %v", got, ok)
		}
	}
	// The zero Type is a value like any other.
	if got, ok := impl.Lookup([]impl.Binding{{}, bind("", variable("a"))}, ""); !ok || !sameType(got, impl.Type{}) {
		t.Errorf("Lookup of the empty name = %v, %v", got, ok)
	}
}

func TestApplyAll(t *testing.T) {
	for _, c := range []struct{ list, all, want string }{
		{"", "", ""}, {"a: int", "", ""}, {"", "'a", "'a"}, {"", "'b,'a", "'b,'a"}, {"a: int", "'a", "int"}, {"a: int", "'c,'a", "'c,int"}, {"a: int", "'a,'a,'a", "int,int,int"},
		{"a: 'b, b: 'a", "'a,'b,(pair 'a 'b)", "'b,'a,(pair 'b 'a)"}, {"a: (list 'b), b: int", "'b,int,(assoc add 'a),'a,(dyn a)", "int,int,(assoc add (list 'b)),(list 'b),(dyn a)"},
		{"a: int, a: bool", "(list 'a),'a", "(list int),int"}, {"a: (list 'a)", "'a,'a", "(list 'a),(list 'a)"},
	} {
		list, all, want := bindingsIn(t, c.list), typesIn(t, c.all), typesIn(t, c.want)
		if got := impl.ApplyAll(list, all); !sameTypes(got, want) {
			t.Errorf("ApplyAll(%s; %s) = %v, want %s", c.list, c.all, got, c.want)
		}
		checkApplied(t, list, all)
	}
	for _, list := range [][]impl.Binding{nil, {}, {bind("a", constructor("int"))}} {
		for _, all := range [][]impl.Type{nil, {}} {
			if got := impl.ApplyAll(list, all); len(got) != 0 {
				t.Errorf("ApplyAll(%v, %v) = %v", list, all, got)
			}
		}
	}
}

func TestRestrictTo(t *testing.T) {
	const whole = "a: int, b: (list 'a), c: (pair 'b 'c)"
	for _, c := range []struct{ list, vars, want string }{
		{whole, "", ""}, {whole, "a", "a: int"}, {whole, "b", "b: (list 'a)"}, {whole, "c", "c: (pair 'b 'c)"}, {whole, "a b", "a: int, b: (list 'a)"}, {whole, "a b c", whole}, {whole, "c b a", whole},
		{whole, "c a", "a: int, c: (pair 'b 'c)"}, {whole, "b b", "b: (list 'a)"}, {whole, "b a b a", "a: int, b: (list 'a)"}, {whole, "d", ""}, {whole, "d c e", "c: (pair 'b 'c)"}, {whole, "aa int list", ""},
		{"", "a", ""}, {"", "", ""}, {"c: 'a, a: 'b, b: 'c", "a b c", "c: 'a, a: 'b, b: 'c"}, {"c: 'a, a: 'b, b: 'c", "b c", "c: 'a, b: 'c"},
		// The bindings of one variable all stay, the first of them first.
		{"a: int, b: unit, a: bool", "a", "a: int, a: bool"}, {"a: int, b: unit, a: bool", "a a b", "a: int, b: unit, a: bool"}, {"a: int, a: int", "a", "a: int, a: int"},
	} {
		list, vars, want := bindingsIn(t, c.list), strings.Fields(c.vars), bindingsIn(t, c.want)
		if got := impl.RestrictTo(list, vars); !sameBindings(got, want) {
			t.Errorf("RestrictTo(%s; %s) = %v, want %s", c.list, c.vars, got, c.want)
		}
		checkSubstitution(t, list, vars, nil)
	}
	for _, list := range [][]impl.Binding{nil, {}, bindingsIn(t, whole)} {
		for _, vars := range [][]string{nil, {}, {""}, {"A"}} {
			if got := impl.RestrictTo(list, vars); len(got) != 0 {
				t.Errorf("RestrictTo(%v, %q) = %v", list, vars, got)
			}
		}
	}
	if got := impl.RestrictTo([]impl.Binding{{}, bind("?0", impl.Type{}), bind("int", variable("A"))}, []string{"", "int"}); !sameBindings(got, []impl.Binding{{}, bind("int", variable("A"))}) {
		t.Errorf("RestrictTo with invalid names = %v", got)
	}
}

func TestIsValidSubstitution(t *testing.T) {
	for _, text := range []string{
		"", "a: int", "a: 'a", "abcdefgh: bool", "v0: 'v1, v1: 'v0", "a: int, b: int", "a: 'b, b: 'a, c: (pair 'a 'b)", "self: (assoc add (list 'a)), list: (dyn show), aa: unit, a: int",
		"a: (list (list (list (list (list (list 'a))))))",
	} {
		if !impl.IsValidSubstitution(bindingsIn(t, text)) {
			t.Errorf("IsValidSubstitution(%s) = false", text)
		}
	}
	if !impl.IsValidSubstitution(nil) || !impl.IsValidSubstitution([]impl.Binding{}) || !impl.IsValidSubstitution([]impl.Binding{bind("a", typeOfSize(60))}) {
		t.Error("IsValidSubstitution is false of no bindings, or of a type at the limit")
	}
	n := constructor("int")
	bad := []impl.Binding{{}, bind("", n), bind("a", impl.Type{}), bind("a", nestType(n, 7)), bind("a", typeOfSize(61)), bind("?0", n), bind("a1234567z", n), bind("'a", n), bind("A", n), bind("1", n), bind("a b", n)}
	for _, word := range keywords {
		bad = append(bad, bind(word, n))
	}
	for _, x := range invalidTypes() {
		for _, y := range insideValidTypes(x) {
			bad = append(bad, bind("a", y))
		}
	}
	// The others are valid and have other variables, or are bound to the same variable.
	bad = append(bad, bind("x", n), bind("y", variable("y")), bind("z", n))
	others := bindingsIn(t, "x: int, y: 'a, z: (list 'x)")
	for i, b := range bad {
		if i < len(bad)-3 && impl.IsValidSubstitution([]impl.Binding{b}) {
			t.Errorf("IsValidSubstitution is true of the binding %v", b)
		}
		for at := range len(others) + 1 {
			list := slices.Insert(slices.Clone(others), at, b)
			if impl.IsValidSubstitution(list) {
				t.Errorf("IsValidSubstitution(%.300v) = true", list)
			}
			checkSubstitution(t, list, []string{"x", b.Var}, []impl.Type{constructor("pair", variable(b.Var), variable("x"))})
		}
	}
}

func TestEqualBindings(t *testing.T) {
	none := []impl.Type{}
	lists := [][]impl.Binding{
		nil, {{}}, {{}, {}}, bindingsIn(t, "a: int"), bindingsIn(t, "b: int"), bindingsIn(t, "a: bool"), bindingsIn(t, "a: 'a"), bindingsIn(t, "a: int, b: int"), bindingsIn(t, "b: int, a: int"), bindingsIn(t, "a: int, a: int"),
		bindingsIn(t, "a: int, b: bool"), bindingsIn(t, "a: (list 'a)"), bindingsIn(t, "a: (list 'b)"), bindingsIn(t, "a: (assoc list 'a)"), bindingsIn(t, "a: list"), bindingsIn(t, "a: (dyn list)"), bindingsIn(t, "a: (list 'a), b: int, c: 'a"),
		bindingsIn(t, "a: (list 'a), b: int, c: 'b"), bindingsIn(t, "a: (list 'a), b: int, d: 'a"), {bind("A", impl.Type{Kind: 7})}, {bind("A", impl.Type{Kind: 8})}, {bind("a ", constructor("int"))}, {bind("", constructor("int"))},
	}
	for i, a := range lists {
		for j, b := range lists {
			if got := impl.EqualBindings(a, copyBindings(b)); got != (i == j) {
				t.Errorf("EqualBindings(%v, %v) = %v", a, b, got)
			}
		}
	}
	room := append(make([]impl.Binding, 0, 9), bind("a", impl.Type{Kind: 2, Name: "int", Args: none}))
	if !impl.EqualBindings(nil, []impl.Binding{}) || !impl.EqualBindings([]impl.Binding{}, nil) || !impl.EqualBindings(room, lists[3]) || !impl.EqualBindings(lists[3], room) {
		t.Error("EqualBindings tells nil from an empty slice, or asks for the capacity")
	}
}

func TestSubstitutionInInvalidTypes(t *testing.T) {
	a, b, n := variable("a"), variable("b"), constructor("int")
	list := []impl.Binding{bind("a", constructor("list", b)), bind("b", n), bind("", constructor("empty")), bind("int", constructor("bool"))}
	value := list[0].Type
	for _, c := range []struct{ x, want impl.Type }{
		{impl.Type{}, impl.Type{}}, {impl.Type{Name: "a"}, impl.Type{Name: "a"}}, {impl.Type{Kind: 5, Name: "a"}, impl.Type{Kind: 5, Name: "a"}}, {impl.Type{Kind: -1, Name: "b"}, impl.Type{Kind: -1, Name: "b"}},
		{typeWith(0, "a", 2, a), typeWith(0, "a", 2, value)}, {typeWith(5, "", 1, b), typeWith(5, "", 1, n)}, {typeWith(-9, "x", 4, constructor("list", a)), typeWith(-9, "x", 4, constructor("list", value))},
		// A bound variable is replaced with its arguments, and one without a binding stays, with what is substituted in them.
		{typeWith(1, "a", 1, b), value}, {typeWith(1, "a", 3, n), value}, {typeWith(1, "c", 1, b), typeWith(1, "c", 1, n)}, {typeWith(1, "c", 2, typeWith(1, "d", 1, a)), typeWith(1, "c", 2, typeWith(1, "d", 1, value))},
		{typeWith(4, "a", 1, a), typeWith(4, "a", 1, value)}, {projection("a", a, b), projection("a", value, n)}, {projection("a"), projection("a")}, {constructor("int", a), constructor("int", value)},
		{typeWith(2, "f", 5, a), typeWith(2, "f", 5, value)}, {variable(""), constructor("empty")}, {variable("int"), constructor("bool")}, {variable("A"), variable("A")}, {constructor("", a), constructor("", value)},
		{nestType(a, 40), nestType(value, 40)}, {typeOfSize(200), typeOfSize(200)},
	} {
		if got := impl.Apply(list, c.x); !sameType(got, c.want) {
			t.Errorf("Apply(%v) = %v, want %v", c.x, got, c.want)
		}
		checkApplied(t, list, append(insideValidTypes(c.x), typeWith(1, "e", 2, c.x), typeWith(0, "", 3, c.x)))
		// It may as well be what a variable is bound to.
		checkSubstitution(t, []impl.Binding{bind("b", a), bind("a", c.x), bind("?1", c.x)}, []string{"a", "?1", "?2"}, []impl.Type{a, b, variable("?1"), constructor("pair", variable("?1"), c.x)})
	}
	for _, x := range append(invalidTypes(), validTypes()...) {
		checkSubstitution(t, list, []string{"a", "", "int", "A"}, insideValidTypes(x))
	}
}

// The result of Apply is not cut at the limits of a valid type.
func TestApplyBeyondTheLimits(t *testing.T) {
	list := []impl.Binding{bind("a", nestType(variable("a"), 6)), bind("b", typeOfSize(60))}
	if !impl.IsValidSubstitution(list) {
		t.Error("IsValidSubstitution is false at the limits")
	}
	if got := impl.Apply(list, nestType(variable("a"), 6)); !sameType(got, nestType(variable("a"), 12)) {
		t.Errorf("Apply is wrong on a type that becomes deeper: %v", got)
	}
	pair := constructor("pair", variable("b"), variable("b"))
	if got := impl.Apply(list, constructor("pair", pair, pair)); impl.TypeSize(got) != 243 || !sameType(got, applyByDefinition(list, constructor("pair", pair, pair))) {
		t.Errorf("Apply is wrong on a type that becomes larger: %v", got)
	}
}

func TestEverySmallSubstitution(t *testing.T) {
	vars := []string{"a", "b", "c"}
	values := typesIn(t, "'a,'b,int,(pair 'b 'a),(assoc b 'a)")
	var all []impl.Binding
	for _, v := range vars {
		for _, x := range values {
			all = append(all, bind(v, x))
		}
	}
	var types []impl.Type
	for size := 1; size <= 3; size++ {
		types = append(types, typesOfSize([]string{"a", "b"}, size)...)
	}
	checkSubstitution(t, nil, vars, types)
	for _, b := range all {
		checkSubstitution(t, []impl.Binding{b}, vars, types)
		for _, c := range all {
			list := []impl.Binding{b, c}
			checkSubstitution(t, list, vars[1:], types[:40])
			checkSubstitution(t, append(list, b), vars[:1], types[:10])
		}
	}
}

func TestRandomSubstitutions(t *testing.T) {
	random := rand.New(rand.NewSource(6))
	valid := 0
	for i := range 20000 {
		var list []impl.Binding
		for range random.Intn(4) {
			v := string(rune('a' + random.Intn(5)))
			if random.Intn(30) == 0 {
				v = []string{"", "?0", "int", "A"}[random.Intn(4)]
			}
			list = append(list, bind(v, randomType(random, random.Intn(4), i%2 == 0)))
		}
		var types []impl.Type
		for range random.Intn(3) {
			types = append(types, randomType(random, random.Intn(5), i%3 == 0))
		}
		checkSubstitution(t, list, []string{"b", "a", "int", "b"}[:random.Intn(5)], types)
		if impl.IsValidSubstitution(list) {
			valid++
		}
	}
	if valid < 5000 || valid > 19000 {
		t.Errorf("%d of 20000 substitutions are valid", valid)
	}
}

// bindingsWithRoom returns two bindings in a slice with unused capacity, the types of which have some too, and all the slices of these types.
func bindingsWithRoom() ([]impl.Binding, [][]impl.Type) {
	x, slots := typesWithRoom()
	y, others := typesWithRoom()
	list := []impl.Binding{bind("a", x), bind("b", y), bind("spare", x), bind("spare", y)}
	return list[:2], append(slots, others...)
}

func TestSubstitutionsLeaveTheirArguments(t *testing.T) {
	list, slots := bindingsWithRoom()
	x, others := typesWithRoom()
	slots = append(slots, others...)
	spare := variable("a")
	types := []impl.Type{x, variable("a"), variable("b"), spare, spare}
	slots = append(slots, types)
	vars := []string{"b", "c", "a", "spare", "spare"}
	beforeList, beforeVars := copyBindings(list[:cap(list)]), slices.Clone(vars)
	defer unchanged(t, slots)()
	checkSubstitution(t, list, vars[:3], types[:3])
	if got := impl.FormatType(impl.Apply(list, constructor("pair", variable("b"), constructor("a")))); got != "(pair (f (pair 'b (assoc add 'a)) unit 'b) a)" {
		t.Errorf("Apply is wrong on bindings with spare capacity: %s", got)
	}
	if !reflect.DeepEqual(copyBindings(list[:cap(list)]), beforeList) || !slices.Equal(vars, beforeVars) {
		t.Errorf("a function changed its argument: %v, %q", list[:cap(list)], vars)
	}
}

// cellsOfTypes returns the address of every type in the slices and of every argument in these types.
func cellsOfTypes(lists ...[]impl.Type) []*impl.Type {
	var cells []*impl.Type
	for _, all := range lists {
		cells = append(cells, typeCells(impl.Type{Args: all})...)
	}
	return cells
}

// sharingArguments returns bindings and a type in which each variable stands at several places, and which share memory.
func sharingArguments() ([]impl.Binding, impl.Type) {
	value := constructor("pair", variable("a"), projection("add", variable("c")))
	list := []impl.Binding{bind("a", value), bind("b", constructor("list", value)), bind("a", value), bind("d", dyn("show"))}
	return list, constructor("f", constructor("pair", variable("a"), variable("b")), constructor("pair", variable("a"), variable("d")), value)
}

// substitutionResults returns a result of each function: types that belong together, and bindings.
func substitutionResults(list []impl.Binding, x impl.Type) ([][]impl.Type, [][]impl.Binding) {
	one, _ := impl.Lookup(list, "a")
	two, _ := impl.Lookup(list, "b")
	types := [][]impl.Type{{impl.Apply(list, x), impl.Apply(list, variable("a"))}, impl.ApplyAll(list, []impl.Type{x, variable("a"), x}), {one, two}}
	return types, [][]impl.Binding{impl.RestrictTo(list, []string{"a", "b"}), impl.RestrictTo(list, []string{"d", "b", "a"})}
}

func TestSubstitutionsReturnNewMemory(t *testing.T) {
	list, x := sharingArguments()
	all := slices.Clone(x.Args)
	for _, b := range list {
		all = append(all, b.Type)
	}
	// The memory of the arguments counts once, although they share it.
	given := map[*impl.Type]bool{}
	for _, cell := range cellsOfTypes(x.Args, all) {
		given[cell] = true
	}
	cells := slices.Collect(maps.Keys(given))
	var places []*impl.Binding
	for range 2 {
		types, kept := substitutionResults(list, x)
		cells = append(cells, cellsOfTypes(types...)...)
		for _, bindings := range kept {
			for i := range bindings {
				places = append(places, &bindings[i])
				cells = append(cells, cellsOfTypes(bindings[i].Type.Args)...)
			}
		}
	}
	if !allDifferent(cells) || !allDifferent(places) {
		t.Error("results share memory with each other, within themselves or with their arguments")
	}
}

func TestChangedArgumentsLeaveTheResults(t *testing.T) {
	list, x := sharingArguments()
	types, kept := substitutionResults(list, x)
	for _, cell := range cellsOfTypes(x.Args, list[1].Type.Args) {
		*cell = variable("changed")
	}
	for i := range list {
		list[i] = bind("changed", constructor("changed"))
	}
	const pair, whole = "(pair 'a (assoc add 'c))", "(f (pair (pair 'a (assoc add 'c)) (list (pair 'a (assoc add 'c)))) (pair (pair 'a (assoc add 'c)) (dyn show)) (pair (pair 'a (assoc add 'c)) (assoc add 'c)))"
	for i, want := range [][]string{{whole, pair}, {whole, pair, whole}, {pair, "(list " + pair + ")"}} {
		for j, got := range types[i] {
			if impl.FormatType(got) != want[j] {
				t.Errorf("a result shares memory with an argument: %v, want %s", got, want[j])
			}
		}
	}
	for i, want := range []string{"a: " + pair + ", b: (list " + pair + "), a: " + pair, "a: " + pair + ", b: (list " + pair + "), a: " + pair + ", d: (dyn show)"} {
		if !sameBindings(kept[i], bindingsIn(t, want)) {
			t.Errorf("a result of RestrictTo shares memory with an argument: %v, want %s", kept[i], want)
		}
	}
}

// An empty slice of an argument has memory too, if it has capacity.
func TestEmptySlicesInResultsAreNew(t *testing.T) {
	room := make([]impl.Type, 1, 4)
	empty := impl.Type{Kind: 2, Name: "unit", Args: room[:0]}
	list := []impl.Binding{bind("a", empty)}
	one, _ := impl.Lookup(list, "a")
	kept := impl.RestrictTo(list, []string{"a"})
	all := impl.ApplyAll(list, []impl.Type{variable("a"), empty, constructor("list", empty)})
	for _, got := range []impl.Type{one, impl.Apply(list, variable("a")), impl.Apply(nil, empty), kept[0].Type, all[0], all[1], all[2].Args[0]} {
		got.Args = append(got.Args, variable("changed"))
	}
	for _, x := range room[:cap(room)] {
		if !sameType(x, impl.Type{}) {
			t.Errorf("a result shares the unused capacity of an argument: %v", x)
		}
	}
	before := make([]impl.Binding, 2)
	first := append(impl.RestrictTo(before[:0], nil), bind("changed", empty))
	second := append(impl.ApplyAll(list, room[:0]), variable("changed"))
	if len(first) != 1 || len(second) != 1 || before[0].Var != "" || room[0].Name != "" {
		t.Error("an empty result shares the unused capacity of an argument")
	}
}

// These functions have no limits of their own, so that neither depth, width nor the number of bindings may exhaust anything.
func TestSubstitutionsFarBeyondTheLimits(t *testing.T) {
	const depth, width = 1000000, 200000
	chain := make([]impl.Type, depth+1)
	chain[depth] = variable("a")
	for i := depth - 1; i >= 0; i-- {
		chain[i] = impl.Type{Kind: impl.TypeConstructor, Name: "list", Args: chain[i+1 : i+2 : i+2]}
	}
	deep := []impl.Binding{bind("a", chain[0])}
	if got := impl.Apply(deep, chain[0]); impl.TypeDepth(got) != 2*depth || impl.CountTypeVariable(got, "a") != 1 {
		t.Errorf("Apply is wrong on a deep type: the depth is %d", impl.TypeDepth(got))
	}
	if got, ok := impl.Lookup(deep, "a"); !ok || !impl.EqualType(got, chain[0]) || !impl.EqualBindings(impl.RestrictTo(deep, []string{"a"}), deep) || impl.IsValidSubstitution(deep) {
		t.Error("a wrong answer about a binding to a deep type")
	}
	var many []impl.Binding
	var vars []string
	wide, want := impl.Type{Kind: 2, Name: "f"}, impl.Type{Kind: 2, Name: "f"}
	for i := range width {
		vars = append(vars, "a"+strconv.Itoa(i))
		value := variable("a" + strconv.Itoa((i+1)%width))
		many = append(many, bind(vars[i], value))
		wide.Args, want.Args = append(wide.Args, variable(vars[i])), append(want.Args, value)
	}
	if got := impl.Apply(many, wide); !impl.EqualType(got, want) || !sameTypes(impl.ApplyAll(many, wide.Args), want.Args) {
		t.Error("Apply or ApplyAll is wrong on many variables with many bindings")
	}
	if got := impl.RestrictTo(many, vars); !impl.EqualBindings(got, many) || !impl.IsValidSubstitution(many) || impl.IsValidSubstitution(append(many, many[0])) {
		t.Error("a wrong answer about many bindings")
	}
}

// Only functions that leave alone what they are not asked for come to an end on these.
func TestSubstitutionsWithoutBounds(t *testing.T) {
	doubled, loop := variable("a"), make([]impl.Type, 1)
	for range 100 {
		doubled = constructor("pair", doubled, doubled)
	}
	loop[0] = impl.Type{Kind: impl.TypeProjection, Name: "add", Args: loop}
	for i, x := range []impl.Type{doubled, loop[0], constructor("list", loop[0])} {
		list := []impl.Binding{bind("b", x), bind("a", constructor("int")), bind("a", x)}
		got, ok := impl.Lookup(list, "a")
		if !ok || !sameType(got, constructor("int")) || impl.IsValidSubstitution(list) || impl.IsValidSubstitution(list[:1]) {
			t.Errorf("Lookup or IsValidSubstitution is wrong with type %d", i)
		}
		if _, ok := impl.Lookup(list, "c"); ok {
			t.Errorf("Lookup finds what is not bound with type %d", i)
		}
		if got := impl.Apply(list, constructor("pair", variable("a"), variable("c"))); impl.FormatType(got) != "(pair int 'c)" {
			t.Errorf("Apply is wrong with type %d: %v", i, got)
		}
		if got := impl.RestrictTo(list[:2], []string{"a", "c"}); !sameBindings(got, list[1:2]) || impl.EqualBindings(list, list[:2]) || impl.EqualBindings(list[1:], list[:2]) {
			t.Errorf("RestrictTo or EqualBindings is wrong with type %d", i)
		}
	}
}
