package tests

import (
	"fmt"
	"math/rand"
	"slices"
	"strconv"
	"testing"

	"loop.example/g00508/impl"
)

// noUnifier is what the tables of this file want where there is no unifier.
const noUnifier = "-"

// brief is for messages about what may be large.
func brief(x any) string {
	text := fmt.Sprint(x)
	if len(text) > 300 {
		text = text[:300] + "..."
	}
	return text
}

func occursByDefinition(v string, x impl.Type) bool {
	return slices.Contains(variablesByDefinition(x), v)
}

// unifyByDefinition follows the document word for word: every pair is substituted as a whole, and so is every binding, each time.
func unifyByDefinition(a, b []impl.Type) ([]impl.Binding, bool) {
	if len(a) != len(b) {
		return nil, false
	}
	var list []impl.Binding
	ok := true
	for i := range a {
		if list, ok = unifyPairByDefinition(list, a[i], b[i]); !ok {
			return nil, false
		}
	}
	return list, true
}

func unifyPairByDefinition(list []impl.Binding, x, y impl.Type) ([]impl.Binding, bool) {
	x, y = applyByDefinition(list, x), applyByDefinition(list, y)
	switch {
	case sameType(x, y):
		return list, true
	case sizeByDefinition(x)+sizeByDefinition(y) > 4000:
		return nil, false
	case x.Kind == 1:
		return bindByDefinition(list, x.Name, y)
	case y.Kind == 1:
		return bindByDefinition(list, y.Name, x)
	case x.Kind != y.Kind || x.Name != y.Name || len(x.Args) != len(y.Args):
		return nil, false
	}
	ok := true
	for i := range x.Args {
		if list, ok = unifyPairByDefinition(list, x.Args[i], y.Args[i]); !ok {
			return nil, false
		}
	}
	return list, true
}

func bindByDefinition(list []impl.Binding, v string, x impl.Type) ([]impl.Binding, bool) {
	if occursByDefinition(v, x) {
		return nil, false
	}
	for i := range list {
		list[i].Type = applyByDefinition([]impl.Binding{bind(v, x)}, list[i].Type)
	}
	return append(list, bind(v, x)), true
}

func renameByDefinition(x impl.Type, from, to string) impl.Type {
	out := impl.Type{Kind: x.Kind, Name: x.Name}
	if x.Kind == 1 && x.Name == from {
		out.Name = to
	}
	for _, arg := range x.Args {
		out.Args = append(out.Args, renameByDefinition(arg, from, to))
	}
	return out
}

// unifiableByDefinition renames one variable after the other, so that a new name is one of those that the next must differ from.
func unifiableByDefinition(a, b impl.Type) bool {
	for _, v := range unionByDefinition(variablesByDefinition(b), nil) {
		if !occursByDefinition(v, a) {
			continue
		}
		name := v + "z"
		for occursByDefinition(name, a) || occursByDefinition(name, b) {
			name += "z"
		}
		b = renameByDefinition(b, v, name)
	}
	_, ok := unifyByDefinition([]impl.Type{a}, []impl.Type{b})
	return ok
}

// checkUnifyAll compares the answers of UnifyAll with what the caller knows, and those about each position with their definitions.
func checkUnifyAll(t *testing.T, a, b []impl.Type, want []impl.Binding, ok bool) {
	t.Helper()
	got, found := impl.UnifyAll(a, b)
	if found != ok || !sameBindings(got, want) {
		t.Errorf("UnifyAll(%s, %s) = %s, %v, want %s, %v", brief(a), brief(b), brief(got), found, brief(want), ok)
	}
	checkUnifier(t, got, a, b, found)
	for i := range min(len(a), len(b)) {
		one, fits := unifyByDefinition(a[i:i+1], b[i:i+1])
		checkUnify(t, a[i], b[i], one, fits)
	}
}

func checkUnify(t *testing.T, a, b impl.Type, want []impl.Binding, ok bool) {
	t.Helper()
	got, found := impl.Unify(a, b)
	if found != ok || !sameBindings(got, want) {
		t.Errorf("Unify(%s, %s) = %s, %v, want %s, %v", brief(a), brief(b), brief(got), found, brief(want), ok)
	}
	checkUnifier(t, got, []impl.Type{a}, []impl.Type{b}, found)
	if apart := unifiableByDefinition(a, b); impl.Unifiable(a, b) != apart {
		t.Errorf("Unifiable(%s, %s) = %v", brief(a), brief(b), !apart)
	}
}

// checkUnifier checks what holds of every unifier, however it is found.
func checkUnifier(t *testing.T, list []impl.Binding, a, b []impl.Type, ok bool) {
	t.Helper()
	if !ok {
		if list != nil {
			t.Errorf("there are bindings without a unifier: %s", brief(list))
		}
		return
	}
	if !sameTypes(impl.ApplyAll(list, a), impl.ApplyAll(list, b)) {
		t.Errorf("%s does not unify %s and %s", brief(list), brief(a), brief(b))
	}
	// Idempotence: no bound variable is left in a value.
	for i, x := range list {
		if !sameType(impl.Apply(list, x.Type), x.Type) {
			t.Errorf("%s is not idempotent", brief(list))
		}
		for _, y := range list[:i] {
			if x.Var == y.Var {
				t.Errorf("%s binds %s twice", brief(list), x.Var)
			}
		}
	}
}

// checkUnifyText takes the types and the bindings as texts.
func checkUnifyText(t *testing.T, a, b, want string) {
	t.Helper()
	left, right := typesIn(t, a), typesIn(t, b)
	var list []impl.Binding
	if want != noUnifier {
		list = bindingsIn(t, want)
	}
	checkUnifyAll(t, left, right, list, want != noUnifier)
	if len(left) == 1 && len(right) == 1 {
		checkUnify(t, left[0], right[0], list, want != noUnifier)
	}
}

// substitutions returns every substitution of types of the pool for the variables.
func substitutions(vars []string, pool []impl.Type) [][]impl.Binding {
	lists := [][]impl.Binding{nil}
	for _, v := range vars {
		var longer [][]impl.Binding
		for _, list := range lists {
			for _, x := range pool {
				longer = append(longer, append(slices.Clone(list), bind(v, x)))
			}
		}
		lists = longer
	}
	return lists
}

// checkMostGeneral tries every substitution of types of the pool: each that makes the sides equal is the unifier followed by that substitution.
// It returns the number of those that make them equal.
func checkMostGeneral(t *testing.T, a, b []impl.Type, pool []impl.Type) int {
	t.Helper()
	list, ok := impl.UnifyAll(a, b)
	vars := unionByDefinition(variablesByDefinition(impl.Type{Args: a}), variablesByDefinition(impl.Type{Args: b}))
	for _, x := range list {
		if !slices.Contains(vars, x.Var) {
			t.Errorf("UnifyAll(%v, %v) binds %q", a, b, x.Var)
		}
	}
	count := 0
	for _, other := range substitutions(vars, pool) {
		if !sameTypes(appliedToAll(other, a), appliedToAll(other, b)) {
			continue
		}
		count++
		if !ok {
			t.Fatalf("UnifyAll(%v, %v) finds no unifier; %v is one", a, b, other)
		}
		for _, v := range vars {
			whole, after := applyByDefinition(other, variable(v)), applyByDefinition(other, applyByDefinition(list, variable(v)))
			if !sameType(whole, after) {
				t.Fatalf("UnifyAll(%v, %v) = %v, which %v is no instance of", a, b, list, other)
			}
		}
	}
	return count
}

func appliedToAll(list []impl.Binding, all []impl.Type) []impl.Type {
	var out []impl.Type
	for _, x := range all {
		out = append(out, applyByDefinition(list, x))
	}
	return out
}

func TestUnify(t *testing.T) {
	for _, c := range []struct{ a, b, want string }{
		// Without variables.
		{"int", "int", ""}, {"bool", "bool", ""}, {"unit", "unit", ""}, {"(dyn show)", "(dyn show)", ""}, {"(list int)", "(list int)", ""}, {"(assoc add int)", "(assoc add int)", ""}, {"(f int (dyn a) (assoc a b))", "(f int (dyn a) (assoc a b))", ""},
		// A variable and each kind of type, on either side.
		{"'a", "'b", "a: 'b"}, {"'b", "'a", "b: 'a"}, {"'a", "int", "a: int"}, {"int", "'a", "a: int"}, {"'a", "unit", "a: unit"}, {"unit", "'a", "a: unit"}, {"'a", "(list int)", "a: (list int)"}, {"(list int)", "'a", "a: (list int)"},
		{"'a", "(dyn show)", "a: (dyn show)"}, {"(dyn show)", "'a", "a: (dyn show)"}, {"'a", "(assoc add int)", "a: (assoc add int)"}, {"(assoc add int)", "'a", "a: (assoc add int)"}, {"'a", "(assoc add 'b)", "a: (assoc add 'b)"}, {"(pair 'b 'b)", "'a", "a: (pair 'b 'b)"},
		// A variable within each kind of type.
		{"(list 'a)", "(list int)", "a: int"}, {"(list int)", "(list 'a)", "a: int"}, {"(assoc add 'a)", "(assoc add (dyn show))", "a: (dyn show)"}, {"(assoc add (list 'b))", "(assoc add 'a)", "a: (list 'b)"}, {"(list (assoc add 'a))", "(list (assoc add (assoc add int)))", "a: (assoc add int)"},
		{"(list (list 'a))", "(list 'b)", "b: (list 'a)"}, {"(list 'b)", "(list (list 'a))", "b: (list 'a)"}, {"(f (dyn show) 'a 'b)", "(f (dyn show) (dyn add) unit)", "a: (dyn add), b: unit"}, {"(list (list (list (list (list (list 'a))))))", "(list (list (list (list (list (list int))))))", "a: int"},
		// Several variables, on one side and on both.
		{"(pair 'a 'b)", "(pair int bool)", "a: int, b: bool"}, {"(pair int bool)", "(pair 'a 'b)", "a: int, b: bool"}, {"(pair 'a bool)", "(pair int 'b)", "a: int, b: bool"}, {"(pair 'a 'a)", "(pair int int)", "a: int"}, {"(pair int int)", "(pair 'a 'a)", "a: int"},
		{"(pair 'a (list 'b))", "(pair (list 'c) 'c)", "a: (list (list 'b)), c: (list 'b)"}, {"(f 'a 'b 'c)", "(f (list 'd) (assoc add 'd) (dyn d))", "a: (list 'd), b: (assoc add 'd), c: (dyn d)"}, {"(pair 'a (pair 'b 'c))", "(pair (pair 'd 'e) 'a)", "a: (pair 'd 'e), b: 'd, c: 'e"},
		{"(f (g 'a) 'a (list 'b))", "(f (g (list 'c)) (list int) 'd)", "a: (list int), c: int, d: (list 'b)"}, {"(f 'a 'b (pair 'a 'b))", "(f 'b int (pair int 'c))", "a: int, b: int, c: int"},
		// Names are names of variables, constructors and traits side by side.
		{"'list", "(list 'a)", "list: (list 'a)"}, {"(list 'list)", "(list (list 'a))", "list: (list 'a)"}, {"(a 'a)", "(a a)", "a: a"}, {"(assoc a 'a)", "(assoc a (dyn a))", "a: (dyn a)"}, {"'abcdefgh", "abcdefgh", "abcdefgh: abcdefgh"}, {"'a", "(a int)", "a: (a int)"},
		{"'a", "(dyn a)", "a: (dyn a)"}, {"'a", "(assoc a int)", "a: (assoc a int)"}, {"'aa", "(list 'a)", "aa: (list 'a)"}, {"'a", "(list 'aa)", "a: (list 'aa)"}, {"'self", "(assoc item 'a)", "self: (assoc item 'a)"},
	} {
		checkUnifyText(t, c.a, c.b, c.want)
	}
}

func TestNoUnifier(t *testing.T) {
	for _, c := range [][2]string{
		{"int", "bool"}, {"int", "unit"}, {"a", "b"}, {"a", "(dyn a)"}, {"(dyn a)", "(dyn b)"}, {"int", "(list int)"}, {"(list 'a)", "(box int)"}, {"(list 'a)", "list"}, {"(list 'a)", "int"}, {"(f 'a)", "(f int int)"}, {"(f 'a 'b)", "(f int int int)"}, {"f", "(f 'a 'b 'c)"},
		{"(assoc add 'a)", "(assoc show int)"}, {"(assoc add 'a)", "(add int)"}, {"(assoc add 'a)", "(dyn add)"}, {"(assoc add 'a)", "int"}, {"(list 'a)", "(assoc add (list 'a))"}, {"(assoc add (list 'a))", "(assoc add int)"}, {"(assoc add int)", "(assoc add bool)"},
		{"(list (list 'a))", "(list int)"}, {"(list (list 'a))", "(list (box 'b))"}, {"(list (list 'a))", "(list (list 'a 'b))"}, {"(list (list (list (list (list (list int))))))", "(list (list (list (list (list (list bool))))))"},
		// A variable that would need two values.
		{"(pair 'a 'a)", "(pair int bool)"}, {"(pair int bool)", "(pair 'a 'a)"}, {"(f 'a 'b 'a)", "(f int 'a bool)"}, {"(f 'a 'b 'a)", "(f 'b int bool)"}, {"(pair 'a (list 'a))", "(pair int (list bool))"}, {"(pair 'a (list 'a))", "(pair (list 'b) 'a)"},
		{"(pair (list 'a) 'a)", "(pair 'b (box 'b))"}, {"(f 'a 'a 'a)", "(f 'b 'c (g 'b))"}, {"(pair 'a 'b)", "(pair (pair 'b 'b) (pair int (list 'a)))"}, {"(f 'a 'b (pair 'a 'b))", "(f 'b 'a (pair int bool))"},
		// The first arguments unify.
		{"(pair 'a int)", "(pair int bool)"}, {"(pair 'a (list 'b))", "(pair int (box int))"}, {"(f 'a 'b (dyn a))", "(f int bool (dyn b))"}, {"(pair (pair 'a 'b) int)", "(pair (pair int bool) unit)"}, {"(f 'a 'b (g 'c 'd int))", "(f int int (g int int bool))"},
		// The last arguments unify.
		{"(pair int 'a)", "(pair bool int)"}, {"(pair (list 'b) 'a)", "(pair int int)"}, {"(f (dyn a) 'a 'b)", "(f (dyn b) int int)"}, {"(f 'a (list int) 'b)", "(f int (list bool) int)"},
	} {
		checkUnifyText(t, c[0], c[1], noUnifier)
		checkUnifyText(t, c[1], c[0], noUnifier)
	}
}

func TestOccursCheck(t *testing.T) {
	for _, c := range [][2]string{
		// Directly, at every place.
		{"'a", "(list 'a)"}, {"'a", "(assoc add 'a)"}, {"'a", "(pair 'a int)"}, {"'a", "(pair int 'a)"}, {"'a", "(f int 'a 'b)"}, {"'a", "(list (list (list 'a)))"}, {"'a", "(f 'b (g 'c (assoc add 'a)) int)"}, {"(list 'a)", "(list (list 'a))"}, {"(assoc add 'a)", "(assoc add (list 'a))"},
		{"(pair int 'a)", "(pair int (list 'a))"}, {"(f 'b 'a 'c)", "(f int (list 'a) 'c)"}, {"(pair 'a 'a)", "(pair (list 'a) (list 'a))"}, {"(pair 'a 'b)", "(pair 'a (list 'b))"}, {"(pair 'a (list 'a))", "(pair 'a 'a)"},
		// Through other bindings.
		{"(pair 'a 'b)", "(pair 'b (list 'a))"}, {"(pair 'a 'b)", "(pair (list 'b) (list 'a))"}, {"(pair 'a 'b)", "(pair (list 'b) 'a)"}, {"(pair 'a 'a)", "(pair 'b (list 'b))"}, {"(pair 'a 'a)", "(pair (list 'b) 'b)"}, {"(pair 'b (list 'b))", "(pair 'a 'a)"},
		{"(f 'a 'b 'c)", "(f 'b 'c (list 'a))"}, {"(f 'a 'b 'c)", "(f (list 'b) (list 'c) (list 'a))"}, {"(f 'a 'b 'c)", "(f 'b 'c (assoc add 'b))"}, {"(f 'a 'b 'a)", "(f 'c 'c (list 'b))"}, {"(f 'a 'b 'c)", "(f (pair 'b 'c) int (list 'a))"},
		{"(f 'a 'b 'c)", "(f (pair 'b 'c) (list 'c) (pair int 'a))"}, {"(pair (pair 'a 'b) 'b)", "(pair (pair 'b 'c) (list 'a))"}, {"(f 'a 'b 'c)", "(f 'b (list 'c) (list 'a))"}, {"(pair 'a (list 'b))", "(pair (list 'b) 'b)"},
	} {
		checkUnifyText(t, c[0], c[1], noUnifier)
		checkUnifyText(t, c[1], c[0], noUnifier)
		checkUnifyText(t, "'x,"+c[0], "int,"+c[1], noUnifier)
	}
	// A variable and itself are equal, also where it is on the other side through bindings; and an occurrence that is gone does no harm.
	for _, c := range []struct{ a, b, want string }{
		{"'a", "'a", ""}, {"(list 'a)", "(list 'a)", ""}, {"(pair 'a 'b)", "(pair 'a 'b)", ""}, {"(assoc add 'a)", "(assoc add 'a)", ""}, {"(pair 'a 'b)", "(pair 'b 'a)", "a: 'b"}, {"(pair 'a 'b)", "(pair 'a int)", "b: int"}, {"(f 'a 'b 'c)", "(f 'b 'c 'a)", "a: 'c, b: 'c"},
		{"(pair 'a 'a)", "(pair 'b 'a)", "a: 'b"}, {"(pair 'a (list 'a))", "(pair 'b (list 'b))", "a: 'b"}, {"(pair 'a 'b)", "(pair (list 'b) 'b)", "a: (list 'b)"}, {"(f 'a 'b 'a)", "(f (list 'c) 'c (list 'b))", "a: (list 'c), b: 'c"}, {"(pair (list 'a) 'a)", "(pair 'b int)", "b: (list int), a: int"},
	} {
		checkUnifyText(t, c.a, c.b, c.want)
	}
}

// The document fixes the order of the bindings and which of two variables is bound.
func TestOrderAndDirectionOfBindings(t *testing.T) {
	for _, c := range []struct{ a, b, want string }{
		{"(pair 'b 'a)", "(pair int bool)", "b: int, a: bool"}, {"(f 'c 'b 'a)", "(f int bool unit)", "c: int, b: bool, a: unit"}, {"(f int bool unit)", "(f 'c 'b 'a)", "c: int, b: bool, a: unit"}, {"(f 'c bool 'a)", "(f int 'b unit)", "c: int, b: bool, a: unit"},
		// The arguments of a pair come before the pairs that follow it.
		{"(pair (list 'c) 'a)", "(pair (list int) bool)", "c: int, a: bool"}, {"(pair (pair 'd 'c) (pair 'b 'a))", "(pair (pair int int) (pair bool bool))", "d: int, c: int, b: bool, a: bool"}, {"(pair 'd (pair 'c (pair 'b 'a)))", "(pair int (pair bool (pair unit int)))", "d: int, c: bool, b: unit, a: int"},
		{"(pair (pair (pair 'd 'c) 'b) 'a)", "(pair (pair (pair int bool) unit) int)", "d: int, c: bool, b: unit, a: int"}, {"(f (assoc add 'c) (list (pair 'a 'c)) (list 'b))", "(f (assoc add int) (list (pair bool int)) (list unit))", "c: int, a: bool, b: unit"},
		// Of two variables, the left one is bound.
		{"'b", "'a", "b: 'a"}, {"(pair 'a 'b)", "(pair 'b 'a)", "a: 'b"}, {"(pair 'b 'a)", "(pair 'a 'b)", "b: 'a"}, {"(pair 'a 'b)", "(pair 'c 'c)", "a: 'c, b: 'c"}, {"(pair 'c 'c)", "(pair 'a 'b)", "c: 'b, a: 'b"}, {"(f 'a 'b 'c)", "(f 'b 'c 'd)", "a: 'd, b: 'd, c: 'd"},
		{"(f 'b 'c 'd)", "(f 'a 'b 'c)", "b: 'a, c: 'a, d: 'a"}, {"(f 'a 'a 'a)", "(f 'b 'c 'd)", "a: 'd, b: 'd, c: 'd"}, {"(f 'b 'c 'd)", "(f 'a 'a 'a)", "b: 'a, c: 'a, d: 'a"}, {"(f 'a 'c 'a)", "(f 'b 'd 'c)", "a: 'd, c: 'd, b: 'd"},
		// Which sides are variables is asked after the substitution.
		{"(pair 'a 'a)", "(pair int 'b)", "a: int, b: int"}, {"(pair 'a 'b)", "(pair int 'a)", "a: int, b: int"}, {"(pair 'a int)", "(pair 'b 'a)", "a: int, b: int"}, {"(pair 'a 'a)", "(pair 'b 'c)", "a: 'c, b: 'c"}, {"(pair 'a 'c)", "(pair 'b 'a)", "a: 'b, c: 'b"},
		{"(pair 'a 'a)", "(pair (list 'b) (list 'c))", "a: (list 'c), b: 'c"}, {"(pair 'a (list 'c))", "(pair (list 'b) 'a)", "a: (list 'b), c: 'b"}, {"(pair (list 'c) 'a)", "(pair 'a (list 'b))", "a: (list 'b), c: 'b"},
	} {
		checkUnifyText(t, c.a, c.b, c.want)
	}
}

func TestBindingsAreBroughtUpToDate(t *testing.T) {
	for _, c := range []struct{ a, b, want string }{
		{"(pair 'a 'b)", "(pair (list 'b) int)", "a: (list int), b: int"}, {"(pair 'a 'b)", "(pair 'b int)", "a: int, b: int"}, {"(pair 'a 'b)", "(pair (pair 'b 'b) (list 'c))", "a: (pair (list 'c) (list 'c)), b: (list 'c)"},
		{"(f 'a 'b 'c)", "(f (list 'b) (list 'c) int)", "a: (list (list int)), b: (list int), c: int"}, {"(f 'a 'b 'c)", "(f (pair 'b 'c) (list 'c) 'd)", "a: (pair (list 'd) 'd), b: (list 'd), c: 'd"}, {"(f 'a 'b 'c)", "(f 'b 'c (dyn show))", "a: (dyn show), b: (dyn show), c: (dyn show)"},
		{"(f 'a 'b 'c)", "(f (pair 'c 'd) (list 'c) int)", "a: (pair int 'd), b: (list int), c: int"}, {"(f 'a 'b 'b)", "(f (assoc add 'b) 'c (list 'd))", "a: (assoc add (list 'd)), b: (list 'd), c: (list 'd)"}, {"(f 'a 'b 'a)", "(f (list 'b) 'c (list int))", "a: (list int), b: int, c: int"},
		// Values that are already up to date stay as they are, and what is not bound stays in them.
		{"(f 'c 'b 'a)", "(f int (list 'c) (list 'b))", "c: int, b: (list int), a: (list (list int))"}, {"(f 'a 'b 'c)", "(f int (pair 'd 'e) (list 'e))", "a: int, b: (pair 'd 'e), c: (list 'e)"}, {"(f 'a 'b 'd)", "(f (pair 'd 'e) (pair 'e 'd) unit)", "a: (pair unit 'e), b: (pair 'e unit), d: unit"},
	} {
		checkUnifyText(t, c.a, c.b, c.want)
	}
	// Each of the later positions changes all values before it.
	checkUnifyText(t, "'a,'b,'c,'d,'e", "(pair 'b 'c),(list 'c),(assoc add 'd),(f 'e 'e),int", "a: (pair (list (assoc add (f int int))) (assoc add (f int int))), b: (list (assoc add (f int int))), c: (assoc add (f int int)), d: (f int int), e: int")
	checkUnifyText(t, "'a,'b,'c,'d,int", "'b,'c,'d,'e,'a", "a: int, b: int, c: int, d: int, e: int")
}

func TestUnifyAll(t *testing.T) {
	for _, c := range []struct{ a, b, want string }{
		{"", "", ""}, {"int", "int", ""}, {"int", "bool", noUnifier}, {"'a", "int", "a: int"}, {"int", "'a", "a: int"}, {"int,bool", "int,bool", ""}, {"int,bool", "bool,int", noUnifier}, {"int,bool", "int,int", noUnifier}, {"int,'a", "'b,bool", "b: int, a: bool"},
		{"'a,'b", "int,bool", "a: int, b: bool"}, {"'b,'a", "int,bool", "b: int, a: bool"}, {"'a,'b", "'b,'a", "a: 'b"}, {"'a,'b", "'b,(list 'a)", noUnifier}, {"'a,'a", "'b,int", "a: int, b: int"}, {"'a,'a", "int,bool", noUnifier}, {"'a,'a", "int,int", "a: int"},
		{"'b,(list 'a),'c", "'a,(list int),(dyn a)", "b: int, a: int, c: (dyn a)"}, {"'a,'a,'a", "'b,'c,'d", "a: 'd, b: 'd, c: 'd"}, {"'a,'a,'a", "int,int,bool", noUnifier}, {"'a,(list 'a)", "int,(list bool)", noUnifier}, {"(list 'a),'a", "(list int),int", "a: int"},
		{"(pair 'b 'a),'c,(pair 'a 'b)", "(pair int bool),unit,(pair bool int)", "b: int, a: bool, c: unit"}, {"(pair 'b 'a),'c,(pair 'a 'b)", "(pair int bool),unit,(pair int bool)", noUnifier}, {"(f 'a 'b),(g 'b 'c)", "(f int bool),(g bool unit)", "a: int, b: bool, c: unit"},
		{"(assoc add 'c),'b,'a", "(assoc add 'd),'c,'c", "c: 'd, b: 'd, a: 'd"}, {"'a,(f 'b),int", "int,(f int),bool", noUnifier}, {"int,'a,'b", "bool,int,int", noUnifier}, {"'a,(list 'b),'c", "int,(box int),int", noUnifier},
		// A pair's arguments come before the positions that follow it.
		{"(pair (list 'b) 'c),'a", "(pair (list int) int),int", "b: int, c: int, a: int"}, {"(pair 'a 'b),'b", "(pair 'b 'c),int", "a: int, b: int, c: int"},
		// Slices that differ in length, although what there is on both sides unifies.
		{"'a", "", noUnifier}, {"", "int", noUnifier}, {"", "'a", noUnifier}, {"'a", "int,int", noUnifier}, {"'a,'b", "int", noUnifier}, {"'a,'a", "int", noUnifier}, {"'a,'a", "int,int,int", noUnifier}, {"int", "int,int", noUnifier}, {"int,int", "int", noUnifier}, {"'a,'b", "", noUnifier},
	} {
		checkUnifyText(t, c.a, c.b, c.want)
	}
}

// What is compared with two different types is not compared once for both, whether it stands for a variable or is shared memory.
func TestUnifyOfWhatOccursTwice(t *testing.T) {
	for _, c := range []struct{ a, b, want string }{
		{"(f 'a (g 'a 'a))", "(f (list int) (g (list int) (list int)))", "a: (list int)"}, {"(f 'a (g 'a 'a))", "(f (list int) (g (list int) (list bool)))", noUnifier}, {"(f 'a (g 'a 'a))", "(f (list int) (g (list bool) (list int)))", noUnifier}, {"(f 'a (g 'a 'a 'a))", "(f (list int) (g (list int) (list int) (list bool)))", noUnifier},
		{"(f 'a 'b (g 'a 'b 'a))", "(f (list int) (list bool) (g (list int) (list bool) (list bool)))", noUnifier}, {"(f 'a (g 'a 'a))", "(f (list 'b) (g (list 'b) (list 'c)))", "a: (list 'c), b: 'c"}, {"(f 'a (g 'a (h 'a)))", "(f (list (list int)) (g (list (list int)) (h (list (list bool)))))", noUnifier},
	} {
		checkUnifyText(t, c.a, c.b, c.want)
		if c.want == noUnifier {
			checkUnifyText(t, c.b, c.a, c.want)
		}
	}
	n, other, room := constructor("int"), constructor("bool"), slices.Repeat([]impl.Type{constructor("int")}, 3)
	shared := constructor("pair", n, n)
	twice := constructor("g", shared, shared)
	// The arguments begin with the same element; only the longer ones differ.
	long, short := impl.Type{Kind: 2, Name: "f", Args: room[:3]}, impl.Type{Kind: 2, Name: "f", Args: room[:2]}
	changed := []impl.Type{n, n, other}
	for _, pair := range [][2]impl.Type{{twice, constructor("g", shared, constructor("pair", n, other))}, {twice, constructor("g", constructor("pair", n, n), constructor("pair", n, other))}, {constructor("g", short, long), constructor("g", typeWith(2, "f", 2, n), constructor("f", changed...))}, {constructor("g", long, short, long), constructor("g", long, constructor("f", changed[:2]...), constructor("f", changed...))}} {
		checkUnify(t, pair[0], pair[1], nil, false)
		checkUnify(t, pair[1], pair[0], nil, false)
		checkUnify(t, constructor("h", pair[0]), constructor("h", pair[1]), nil, false)
		checkUnify(t, pair[0], pair[0], nil, true)
	}
}

func TestUnifyAllOfNothing(t *testing.T) {
	empty := make([]impl.Type, 0, 4)
	for _, a := range [][]impl.Type{nil, {}, empty} {
		for _, b := range [][]impl.Type{nil, {}, empty} {
			checkUnifyAll(t, a, b, nil, true)
		}
		for _, some := range [][]impl.Type{{variable("a")}, {constructor("int")}, {{}}, {{}, {}}} {
			checkUnifyAll(t, a, some, nil, false)
			checkUnifyAll(t, some, a, nil, false)
		}
	}
	// A slice of types is not the type that has them as its arguments.
	a := []impl.Type{variable("a")}
	checkUnifyAll(t, a, []impl.Type{{Args: []impl.Type{variable("b")}}}, []impl.Binding{bind("a", impl.Type{Args: []impl.Type{variable("b")}})}, true)
	checkUnifyAll(t, a, []impl.Type{{Args: a}}, nil, false)
}

// Whatever the difference is and wherever it stands, no binding made before it is left.
func TestNothingOfAPartialUnifierIsLeft(t *testing.T) {
	a := typesIn(t, "'a,(pair 'b (list 'c)),(assoc add 'a),int,(list unit),(dyn show),(f 'b 'e 'e)")
	b := typesIn(t, "int,(pair bool (list 'g)),(assoc add int),'h,'d,(dyn show),(f bool (g int) (g 'i))")
	checkUnifyAll(t, a, b, bindingsIn(t, "a: int, b: bool, c: 'g, h: int, d: (list unit), e: (g int), i: int"), true)
	for i := range a {
		checkUnifyAll(t, a[:i], b, nil, false)
		checkUnifyAll(t, a, b[:i], nil, false)
	}
	failed := 0
	cells := append(cellsOfTypes(a), cellsOfTypes(b)...)
	for _, cell := range cells {
		whole := *cell
		for _, x := range []impl.Type{{}, variable("x"), constructor("x"), dyn("x"), constructor("x", whole), {Kind: whole.Kind, Name: whole.Name, Args: append(slices.Clone(whole.Args), whole)}} {
			*cell = x
			list, ok := unifyByDefinition(a, b)
			checkUnifyAll(t, a, b, list, ok)
			if !ok {
				failed++
			}
		}
		*cell = whole
	}
	if failed < 70 || failed == 6*len(cells) {
		t.Errorf("%d of %d changed lists of types do not unify", failed, 6*len(cells))
	}
}

// wideType returns a type of the given size without variables.
func wideType(size int) impl.Type { return typeWith(2, "f", size-1, constructor("int")) }

func TestUnifyAtTheSizeLimit(t *testing.T) {
	a, b, c, n := variable("a"), variable("b"), variable("c"), constructor("int")
	for _, shift := range []int{-2, -1, 0, 1, 2, 50} {
		ok := shift <= 0
		for _, x := range []impl.Type{wideType(3999 + shift), nestType(b, 3998+shift), nestType(wideType(2000+shift), 1999), constructor("f", wideType(1000), b, wideType(2997+shift)), typeWith(3, "add", 3998+shift, n), typeWith(7, "", 3998+shift, b)} {
			if sizeByDefinition(x) != 3999+shift {
				t.Fatalf("a type of this test has size %d", sizeByDefinition(x))
			}
			var list []impl.Binding
			if ok {
				list = []impl.Binding{bind("a", x)}
			}
			checkUnify(t, a, x, list, ok)
			checkUnify(t, x, a, list, ok)
			// A side without variables counts as well, and it may be larger than the other.
			checkUnify(t, x, x, nil, true)
		}
		// The outer pair exceeds the limit where the inner one doesn't.
		x := wideType(3997 + shift)
		list, fits := unifyByDefinition([]impl.Type{nestType(a, 1)}, []impl.Type{nestType(x, 1)})
		checkUnify(t, nestType(a, 1), nestType(x, 1), list, ok)
		if fits != ok {
			t.Errorf("the definition finds %v beyond the limit by %d", fits, shift)
		}
		// What stands for a variable counts, and not the variable; the two sides of the second pair have 2000+shift each.
		x = wideType(1998 + shift)
		sides := [2][]impl.Type{{a, constructor("pair", a, b)}, {x, constructor("pair", x, n)}}
		checkByDefinition(t, sides[0], sides[1], ok || shift < 0)
		checkByDefinition(t, sides[1], sides[0], ok || shift < 0)
		// The second argument has grown with the first one's binding: 1+2*size and 3.
		x = wideType(1998 + shift)
		left, right := constructor("f", a, constructor("g", a, a)), constructor("f", x, constructor("g", b, c))
		checkByDefinition(t, []impl.Type{left}, []impl.Type{right}, ok)
		checkByDefinition(t, []impl.Type{right}, []impl.Type{left}, ok)
		// The arguments of a variable count, too.
		x = typeWith(1, "a", 3998+shift, n)
		checkByDefinition(t, []impl.Type{x}, []impl.Type{b}, ok)
		checkByDefinition(t, []impl.Type{b}, []impl.Type{x}, ok)
	}
}

// checkByDefinition is for cases in which the caller only knows whether there is a unifier.
func checkByDefinition(t *testing.T, a, b []impl.Type, ok bool) {
	t.Helper()
	list, found := unifyByDefinition(a, b)
	if found != ok {
		t.Errorf("the definition finds %v for %s and %s", found, brief(a), brief(b))
	}
	checkUnifyAll(t, a, b, list, ok)
}

// The limit is one of the sides of a pair that are not equal.
func TestTypesBeyondTheSizeLimitOfAPair(t *testing.T) {
	a, b, n, large := variable("a"), variable("b"), constructor("int"), wideType(3000)
	for _, x := range []impl.Type{wideType(2001), wideType(5000), nestType(a, 5000), nestType(b, 2000), constructor("pair", large, constructor("pair", a, large))} {
		checkByDefinition(t, []impl.Type{x}, []impl.Type{x}, true)
		checkByDefinition(t, []impl.Type{constructor("pair", a, x)}, []impl.Type{constructor("pair", b, x)}, false)
		checkByDefinition(t, []impl.Type{a, x}, []impl.Type{b, x}, true)
		checkByDefinition(t, []impl.Type{x, x, n}, []impl.Type{x, x, a}, true)
	}
	// Positions have no common limit, and neither have the bindings.
	var left, right []impl.Type
	for i := range 5 {
		left, right = append(left, variable("v"+strconv.Itoa(i))), append(right, large)
	}
	checkByDefinition(t, left, right, true)
	checkByDefinition(t, append(left, left...), append(right, right...), true)
	checkByDefinition(t, []impl.Type{a, b}, []impl.Type{typeWith(2, "f", 5, b), large}, true)
	checkByDefinition(t, []impl.Type{a, b, a}, []impl.Type{typeWith(2, "f", 5, b), large, n}, false)
	checkByDefinition(t, []impl.Type{a, b, a, a}, []impl.Type{typeWith(2, "f", 5, b), large, typeWith(2, "f", 5, b), typeWith(2, "f", 5, large)}, true)
	checkByDefinition(t, []impl.Type{a, b, a}, []impl.Type{typeWith(2, "f", 5, b), large, variable("c")}, false)
	// The size of 'v0 is 1, that of 'v10 is 2047; 'v11 and its value would have 1+4095.
	for count, ok := range map[int]bool{10: true, 11: true, 12: false, 13: false} {
		left, right = nil, nil
		for i := 1; i < count; i++ {
			v, earlier := variable("v"+strconv.Itoa(i)), variable("v"+strconv.Itoa(i-1))
			left, right = append(left, v), append(right, constructor("pair", earlier, earlier))
		}
		checkByDefinition(t, left, right, ok)
		checkByDefinition(t, right, left, ok)
	}
}

func TestUnifyOfInvalidTypes(t *testing.T) {
	a, b, n := variable("a"), variable("b"), constructor("int")
	withArgs := typeWith(1, "a", 2, b)
	for _, c := range []struct {
		x, y impl.Type
		want []impl.Binding
		ok   bool
	}{
		// Of a kind that is none of the four, types unify if they agree and their arguments unify.
		{impl.Type{}, impl.Type{}, nil, true}, {impl.Type{}, impl.Type{Args: []impl.Type{}}, nil, true}, {impl.Type{Kind: 5, Name: "a"}, impl.Type{Kind: 5, Name: "a"}, nil, true}, {impl.Type{Kind: 5, Name: "a"}, impl.Type{Kind: 6, Name: "a"}, nil, false},
		{impl.Type{Kind: 5, Name: "a"}, impl.Type{Kind: 5, Name: "b"}, nil, false}, {impl.Type{}, n, nil, false}, {n, impl.Type{Name: "int"}, nil, false}, {impl.Type{Kind: 1 + 1<<32, Name: "a"}, n, nil, false}, {impl.Type{Kind: -1, Name: "a"}, n, nil, false},
		{typeWith(0, "f", 2, a), typeWith(0, "f", 2, n), []impl.Binding{bind("a", n)}, true}, {typeWith(-1, "", 4, b), typeWith(-1, "", 4, a), []impl.Binding{bind("b", a)}, true}, {typeWith(0, "f", 2, a), typeWith(0, "f", 3, a), nil, false},
		{a, impl.Type{}, []impl.Binding{bind("a", impl.Type{})}, true}, {impl.Type{Kind: 9, Name: "a"}, a, []impl.Binding{bind("a", impl.Type{Kind: 9, Name: "a"})}, true}, {a, typeWith(7, "A", 5, b), []impl.Binding{bind("a", typeWith(7, "A", 5, b))}, true}, {a, typeWith(7, "A", 5, a), nil, false},
		{constructor("pair", a, a), constructor("pair", impl.Type{}, impl.Type{Kind: 5}), nil, false}, {constructor("pair", a, a), constructor("pair", impl.Type{Kind: 5}, impl.Type{Kind: 5}), []impl.Binding{bind("a", impl.Type{Kind: 5})}, true},
		// A variable that has arguments is bound like any other. Apply replaces it together with them, and leaves both where it has no binding.
		{withArgs, n, []impl.Binding{bind("a", n)}, true}, {n, withArgs, []impl.Binding{bind("a", n)}, true}, {withArgs, withArgs, nil, true}, {b, typeWith(1, "a", 1, n), []impl.Binding{bind("b", typeWith(1, "a", 1, n))}, true}, {withArgs, b, []impl.Binding{bind("a", b)}, true},
		{a, withArgs, nil, false}, {withArgs, a, nil, false}, {withArgs, typeWith(1, "a", 2, n), nil, false}, {b, withArgs, nil, false}, {withArgs, constructor("list", a), nil, false}, {withArgs, typeWith(1, "b", 1, n), []impl.Binding{bind("a", typeWith(1, "b", 1, n))}, true},
		{constructor("pair", withArgs, a), constructor("pair", n, n), []impl.Binding{bind("a", n)}, true}, {constructor("pair", withArgs, b), constructor("pair", n, a), []impl.Binding{bind("a", n), bind("b", n)}, true}, {constructor("pair", withArgs, a), constructor("pair", n, dyn("s")), nil, false},
		{constructor("pair", variable("c"), b), constructor("pair", withArgs, n), []impl.Binding{bind("c", typeWith(1, "a", 2, n)), bind("b", n)}, true}, {constructor("pair", variable("c"), a), constructor("pair", withArgs, n), []impl.Binding{bind("c", n), bind("a", n)}, true},
		{constructor("pair", withArgs, withArgs), constructor("pair", variable("c"), n), []impl.Binding{bind("a", n), bind("c", n)}, true}, {typeWith(1, "a", 1, a), n, []impl.Binding{bind("a", n)}, true}, {constructor("pair", a, b), constructor("pair", n, typeWith(1, "a", 1, b)), []impl.Binding{bind("a", n), bind("b", n)}, true},
		// Names that are not valid are names like any other.
		{variable(""), n, []impl.Binding{bind("", n)}, true}, {variable("int"), n, []impl.Binding{bind("int", n)}, true}, {variable("?0"), variable("?1"), []impl.Binding{bind("?0", variable("?1"))}, true}, {variable("'a"), a, []impl.Binding{bind("'a", a)}, true}, {variable(""), constructor("list", variable("")), nil, false},
		{constructor("f", variable("A"), variable(""), variable("A")), constructor("f", n, a, n), []impl.Binding{bind("A", n), bind("", a)}, true}, {constructor("f", variable("A"), variable("a"), variable("A")), constructor("f", n, n, dyn("n")), nil, false}, {variable("a "), a, []impl.Binding{bind("a ", a)}, true},
		{constructor("", a), constructor("", n), []impl.Binding{bind("a", n)}, true}, {constructor("A"), constructor("a"), nil, false}, {dyn("int"), dyn("int"), nil, true}, {dyn(""), constructor(""), nil, false}, {constructor("assoc", a), projection("assoc", n), nil, false}, {dyn("int"), n, nil, false},
		// Numbers of arguments that the kind doesn't permit.
		{projection("add"), projection("add"), nil, true}, {projection("add", a, b), projection("add", b, a), []impl.Binding{bind("a", b)}, true}, {projection("add", a, a), projection("add", n), nil, false}, {typeWith(4, "show", 1, a), dyn("show"), nil, false},
		{typeWith(4, "show", 1, a), typeWith(4, "show", 1, n), []impl.Binding{bind("a", n)}, true}, {constructor("int", a), constructor("int", n), []impl.Binding{bind("a", n)}, true}, {n, constructor("int", a), nil, false}, {typeWith(2, "f", 5, a), typeWith(2, "f", 5, n), []impl.Binding{bind("a", n)}, true},
		// Sizes and depths beyond those of valid types.
		{nestType(a, 40), nestType(b, 41), []impl.Binding{bind("a", constructor("list", b))}, true}, {nestType(a, 41), nestType(a, 40), nil, false}, {typeOfSize(200), typeOfSize(200), nil, true}, {typeOfSize(200), typeOfSize(199), nil, false},
	} {
		checkUnify(t, c.x, c.y, c.want, c.ok)
		checkUnifyAll(t, []impl.Type{c.x}, []impl.Type{c.y}, c.want, c.ok)
		checkUnifyAll(t, []impl.Type{{}, constructor("list", c.x)}, []impl.Type{{}, constructor("list", c.y)}, c.want, c.ok)
	}
}

// Valid and invalid types in one another, each on both sides.
func TestUnifyOfAllKinds(t *testing.T) {
	all := append(validTypes(), invalidTypes()...)
	for _, x := range all {
		for _, y := range all {
			want, ok := unifyByDefinition([]impl.Type{x}, []impl.Type{y})
			checkUnify(t, x, y, want, ok)
		}
	}
	around := insideValidTypes(variable("b"))
	for _, x := range all {
		for i, y := range insideValidTypes(x) {
			for _, z := range []impl.Type{around[i], y, around[(i+1)%len(around)]} {
				for _, sides := range [][2][]impl.Type{{{z}, {y}}, {{y}, {z}}, {{z, x}, {y, variable("b")}}, {{y, variable("c")}, {z, variable("b")}}} {
					want, ok := unifyByDefinition(sides[0], sides[1])
					checkUnifyAll(t, sides[0], sides[1], want, ok)
				}
			}
		}
	}
}

func TestEverySmallUnification(t *testing.T) {
	var valid, all []impl.Type
	for size := 1; size <= 3; size++ {
		for _, x := range typesOfSize([]string{"a", "b"}, size) {
			if rulesByDefinition(x) {
				valid = append(valid, x)
			}
		}
		all = append(all, typesOfSize([]string{"a"}, size)...)
	}
	all = append(all, typesOfSize([]string{"b"}, 1)...)
	for _, types := range [][]impl.Type{valid, all} {
		for _, x := range types {
			for _, y := range types {
				want, ok := unifyByDefinition([]impl.Type{x}, []impl.Type{y})
				checkUnify(t, x, y, want, ok)
			}
		}
	}
}

func TestEverySmallUnifyAll(t *testing.T) {
	types := typesIn(t, "'a,'b,'c,int,(list 'a),(list 'b),(pair 'b 'a),(pair 'c 'c),(assoc add 'a)")
	var lists [][]impl.Type
	for _, x := range types {
		for _, y := range types {
			lists = append(lists, []impl.Type{x, y})
		}
	}
	pool := typesIn(t, "'a,'b,int,(list 'b),(list int),(pair int int)")
	unifying := 0
	for _, a := range lists {
		for _, b := range lists {
			want, ok := unifyByDefinition(a, b)
			checkUnifyAll(t, a, b, want, ok)
			unifying += min(1, checkMostGeneral(t, a, b, pool))
		}
	}
	if unifying < 500 || unifying > 5000 {
		t.Errorf("%d of %d pairs of lists have unifiers", unifying, len(lists)*len(lists))
	}
}

func TestUnifiersAreMostGeneral(t *testing.T) {
	random := rand.New(rand.NewSource(8))
	instances := 0
	for range 4000 {
		a, b := []impl.Type{randomType(random, random.Intn(4), true)}, []impl.Type{randomType(random, random.Intn(3), true)}
		parts := partsOf(append(slices.Clone(a), b...))
		pool := typesIn(t, "int,'a,(list 'b)")
		for range 3 {
			pool = append(pool, parts[random.Intn(len(parts))])
		}
		if random.Intn(2) == 0 {
			b = appliedToAll([]impl.Binding{bind("a", pool[0]), bind("b", pool[3])}, a)
		}
		instances += checkMostGeneral(t, a, b, pool)
	}
	if instances < 5000 {
		t.Errorf("only %d substitutions were unifiers", instances)
	}
}

func TestRandomUnifications(t *testing.T) {
	random := rand.New(rand.NewSource(88))
	unifying, bound := 0, 0
	for i := range 40000 {
		var a, b []impl.Type
		for range 1 + random.Intn(3) {
			a = append(a, randomType(random, random.Intn(4), i%2 == 0))
		}
		b = copyType(impl.Type{Args: a}).Args
		for _, side := range [][]impl.Type{a, b} {
			for range random.Intn(4) {
				cells := cellsOfTypes(side)
				*cells[random.Intn(len(cells))] = variable(string(rune('a' + random.Intn(8))))
			}
		}
		if random.Intn(3) == 0 {
			cells := cellsOfTypes(b)
			*cells[random.Intn(len(cells))] = randomType(random, random.Intn(3), i%2 == 0)
		}
		want, ok := unifyByDefinition(a, b)
		checkUnifyAll(t, a, b, want, ok)
		if ok {
			unifying, bound = unifying+1, bound+len(want)
		}
	}
	if unifying < 10000 || unifying > 35000 || bound < 20000 {
		t.Errorf("%d of 40000 lists of types unify, with %d variables", unifying, bound)
	}
}

func TestUnifiable(t *testing.T) {
	for _, c := range []struct {
		a, b string
		want bool
	}{
		{"'a", "'a", true}, {"'a", "'b", true}, {"'a", "int", true}, {"int", "'a", true}, {"int", "int", true}, {"int", "bool", false}, {"(dyn a)", "(dyn a)", true}, {"(dyn a)", "(dyn b)", false}, {"(assoc add 'a)", "(assoc add int)", true}, {"(assoc add 'a)", "(add int)", false},
		{"(list int)", "(list (list 'a))", false}, {"(list 'a)", "(box 'a)", false}, {"(pair 'a 'a)", "(pair int bool)", false}, {"(pair 'a 'a)", "(pair int 'b)", true},
		// Only apart do these unify.
		{"'a", "(list 'a)", true}, {"(list 'a)", "'a", true}, {"'a", "(assoc add 'a)", true}, {"'a", "(pair 'a 'b)", true}, {"(list 'a)", "(list (list 'a))", true}, {"(pair 'a int)", "(pair bool 'a)", true}, {"(pair 'a 'b)", "(pair 'b (list 'a))", true}, {"(pair 'a 'b)", "(pair (list 'a) (list 'b))", true},
		{"(pair 'a (list 'b))", "(pair (list 'b) 'a)", true}, {"(pair 'a bool)", "(pair int 'a)", true}, {"(f 'a 'b 'c)", "(f (g 'a 'b) (g 'b 'c) (g 'c 'a))", true}, {"(f 'a int 'b)", "(f bool 'b 'a)", true},
		// Renamed, a variable is still one variable.
		{"(pair int bool)", "(pair 'a 'a)", false}, {"(f 'a int bool)", "(f 'b 'a 'a)", false}, {"(pair 'a 'a)", "(pair 'a (list 'a))", false}, {"(pair 'a (list 'a))", "(pair 'a 'a)", false}, {"(f 'a int bool)", "(f 'a 'a 'a)", false}, {"(f 'a 'a int)", "(f 'a bool 'a)", false},
		// Those of a that are not in b, and those of b that are not in a, keep their names.
		{"(pair 'a 'b)", "(pair 'c (list 'a))", true}, {"(f 'a 'b 'a)", "(f 'b 'c (list 'c))", true}, {"(f 'b 'a int)", "(f 'c 'c 'a)", true},
		// The name with one z is taken in a: 'a becomes 'azz.
		{"(pair 'az 'a)", "(pair (list 'a) int)", true}, {"(pair 'a 'az)", "(pair int (list 'a))", true}, {"(f 'az 'a int)", "(f bool 'b 'a)", true}, {"(f 'a 'az 'az)", "(f 'a int bool)", false}, {"(f 'az 'a 'azz)", "(f (list 'a) int (list 'a))", true}, {"(f 'az 'a 'azz)", "(f (list 'a) int bool)", true},
		// It is taken in b.
		{"(f 'a int bool)", "(f int 'a 'az)", true}, {"(f 'a int bool)", "(f int 'az 'a)", true}, {"(f 'a int bool)", "(f 'az 'az 'a)", true}, {"(f 'a (list 'b) 'b)", "(f int 'a 'az)", true}, {"(f (pair 'a int) bool unit)", "(f (pair int 'az) 'azz 'a)", true}, {"(pair 'a (pair int bool))", "(pair int (pair 'azz 'a))", true},
		// It is taken in both, or by another renamed variable.
		{"(pair (pair 'x 'xz) (pair int bool))", "(pair (pair int bool) (pair 'x 'xz))", true}, {"(pair (pair 'x 'xz) (pair int bool))", "(pair (pair int bool) (pair 'xz 'x))", true}, {"(pair (pair 'xz 'x) (pair int bool))", "(pair (pair int bool) (pair 'xz 'x))", true},
		{"(f (g 'x 'xz 'xzz) int (g int bool unit))", "(f (g int int int) int (g 'x 'xz 'xzz))", true}, {"(f (g 'x 'xz 'xzz) int (g int bool unit))", "(f (g int int int) int (g 'xzz 'x 'xz))", true}, {"(f (g 'x 'xz 'xzz) int (g int bool unit))", "(f (g int int int) 'xzzz (g 'xzz 'x 'xz))", true},
		{"(f (g 'x 'xz 'xzz) int (g int bool unit))", "(f (g int int int) 'x (g 'x 'xz 'xzz))", true}, {"(f (g 'x 'xz 'xzz) bool (g int bool unit))", "(f (g int int int) 'x (g 'x 'xz 'xzz))", false}, {"(f (g 'x 'xz 'xzz) 'xzzz (g int bool unit))", "(f (g int int int) (list 'x) (g 'x 'xz 'xzz))", true},
		{"(f (g 'z 'zz) (pair int bool) int)", "(f (g 'zz 'z) (pair 'z 'zz) int)", true}, {"(pair 'abcdefgh 'a)", "(pair (list 'abcdefgh) 'a)", true}, {"(pair 'az 'a)", "(pair 'az (list 'a))", true}, {"(f 'az 'a 'a)", "(f 'a 'az (list 'az))", false}, {"(f 'az 'a 'a)", "(f 'a 'az (list 'a))", true},
	} {
		a, b := typesIn(t, c.a)[0], typesIn(t, c.b)[0]
		if got := impl.Unifiable(a, b); got != c.want {
			t.Errorf("Unifiable(%s, %s) = %v", c.a, c.b, got)
		}
		if got := impl.Unifiable(b, a); got != c.want {
			t.Errorf("Unifiable(%s, %s) = %v", c.b, c.a, got)
		}
		list, ok := unifyByDefinition([]impl.Type{a}, []impl.Type{b})
		checkUnify(t, a, b, list, ok)
	}
}

// Two types are unifiable if they unify with names that were never the same.
func TestUnifiableIsIndependentOfNames(t *testing.T) {
	random := rand.New(rand.NewSource(888))
	names := []string{"a", "az", "azz", "b", "bz", "z", ""}
	apart := 0
	for range 20000 {
		sides := [2]impl.Type{}
		for i := range sides {
			x := impl.Type{Args: []impl.Type{randomType(random, 1+random.Intn(3), true)}}
			for range 1 + random.Intn(5) {
				cells := cellsOfTypes(x.Args)
				*cells[random.Intn(len(cells))] = variable(names[random.Intn(len(names))])
			}
			sides[i] = constructor("pair", x.Args[0], variable("azzz"))
		}
		a, b := sides[0], sides[1]
		other := b
		for i, v := range append(names, "azzz", "c", "d") {
			other = renameByDefinition(other, v, "new"+strconv.Itoa(i))
		}
		_, want := impl.Unify(a, other)
		if got := impl.Unifiable(a, b); got != want || impl.Unifiable(b, a) != want || impl.Unifiable(a, other) != want || impl.Unifiable(other, a) != want {
			t.Errorf("Unifiable(%v, %v) = %v, want %v", a, b, got, want)
		}
		if _, ok := impl.Unify(a, b); ok != want {
			apart++
		}
	}
	if apart < 500 {
		t.Errorf("only %d pairs of types unify apart and not together", apart)
	}
}

func TestUnifiableOfInvalidTypes(t *testing.T) {
	a, n := variable("a"), constructor("int")
	withArgs := typeWith(1, "a", 1, n)
	for _, c := range []struct {
		x, y impl.Type
		want bool
	}{
		{impl.Type{}, impl.Type{}, true}, {impl.Type{}, impl.Type{Kind: 5}, false}, {impl.Type{Kind: 5, Name: "a"}, a, true}, {typeWith(0, "f", 2, a), typeWith(0, "f", 2, constructor("list", a)), true}, {typeWith(0, "f", 2, a), typeWith(0, "f", 3, a), false},
		// Renaming leaves the arguments of a variable.
		{a, withArgs, true}, {withArgs, a, true}, {withArgs, withArgs, true}, {withArgs, constructor("list", a), true}, {a, typeWith(1, "a", 2, a), true}, {typeWith(1, "a", 2, a), typeWith(1, "b", 2, constructor("list", a)), true}, {n, withArgs, true},
		{constructor("pair", a, a), constructor("pair", withArgs, a), false}, {constructor("pair", a, a), constructor("pair", withArgs, withArgs), true}, {constructor("pair", a, a), constructor("pair", withArgs, typeWith(1, "a", 1, dyn("s"))), false}, {constructor("pair", withArgs, a), constructor("pair", a, a), true},
		{constructor("f", a, a, variable("c")), constructor("f", typeWith(1, "b", 1, a), typeWith(1, "b", 1, n), variable("c")), false}, {constructor("f", a, a, n), constructor("f", typeWith(1, "b", 1, a), typeWith(1, "b", 1, variable("az")), a), false},
		{variable(""), constructor("list", variable("")), true}, {constructor("pair", variable(""), n), constructor("pair", dyn("s"), variable("")), true}, {constructor("pair", variable("?0"), variable("?0z")), constructor("pair", variable("?0z"), constructor("list", variable("?0"))), true},
		{a, wideType(3999), true}, {a, wideType(4000), false}, {wideType(3999), a, true}, {wideType(4000), a, false}, {wideType(5000), wideType(5000), true},
		// Equal sides are not equal any more where a variable has been renamed.
		{constructor("f", wideType(1998), a), constructor("f", wideType(1998), a), true}, {constructor("f", wideType(1999), a), constructor("f", wideType(1999), a), false}, {constructor("f", wideType(1998), a), constructor("f", wideType(1998), nestType(a, 1)), false}, {constructor("f", wideType(1997), a), constructor("f", wideType(1997), nestType(a, 2)), true},
	} {
		if got, other := impl.Unifiable(c.x, c.y), unifiableByDefinition(c.x, c.y); got != c.want || other != c.want {
			t.Errorf("Unifiable(%s, %s) = %v, by definition %v", brief(c.x), brief(c.y), got, other)
		}
	}
}

func TestOccursIn(t *testing.T) {
	for _, c := range []struct {
		v, x string
		want bool
	}{
		{"a", "'a", true}, {"a", "'b", false}, {"a", "a", false}, {"a", "(dyn a)", false}, {"a", "(a 'b)", false}, {"a", "(assoc a 'b)", false}, {"a", "(list 'a)", true}, {"a", "(assoc add 'a)", true}, {"a", "(f 'b 'c 'a)", true}, {"a", "(f 'a 'b 'c)", true}, {"a", "(f 'b 'a 'c)", true},
		{"a", "'aa", false}, {"aa", "'a", false}, {"", "'a", false}, {"'a", "'a", false}, {"A", "'a", false}, {"int", "int", false}, {"list", "(list 'a)", false}, {"list", "(list 'list)", true}, {"c", "(f (g 'a 'b) (assoc add (list 'c)) int)", true}, {"d", "(f (g 'a 'b) (assoc add (list 'c)) int)", false},
		{"a", "(list (list (list (list (list (list 'a))))))", true}, {"a", "(pair (pair (pair 'b 'b) 'b) 'a)", true}, {"self", "(assoc item 'self)", true}, {"a", "int", false}, {"a", "(pair 'a 'a)", true},
	} {
		if got := impl.OccursIn(c.v, typesIn(t, c.x)[0]); got != c.want {
			t.Errorf("OccursIn(%q, %s) = %v", c.v, c.x, got)
		}
	}
	var types []impl.Type
	for _, x := range append(validTypes(), invalidTypes()...) {
		types = append(types, insideValidTypes(x)...)
	}
	for size := 1; size <= 3; size++ {
		types = append(types, typesOfSize([]string{"a", "b", ""}, size)...)
	}
	// A variable that occurs in the arguments of an invalid one occurs.
	types = append(types, typeWith(1, "x", 1, variable("b")), typeWith(4, "show", 2, variable("a")), typeWith(9, "", 1, typeWith(1, "x", 2, variable("a"))))
	for _, x := range types {
		for _, v := range []string{"a", "b", "", "x", "int", "?0", "list", "add"} {
			if got := impl.OccursIn(v, x); got != occursByDefinition(v, x) {
				t.Errorf("OccursIn(%q, %v) = %v", v, x, got)
			}
		}
	}
}

func TestUnifyLeavesItsArguments(t *testing.T) {
	x, slots := typesWithRoom()
	y, others := typesWithRoom()
	left := []impl.Type{x, variable("a"), variable("c"), x, variable("spare")}
	right := []impl.Type{variable("d"), variable("a"), y, y, variable("spare")}
	slots = append(append(slots, others...), left, right)
	defer unchanged(t, slots)()
	for length := range 5 {
		for other := range 5 {
			want, ok := unifyByDefinition(left[:length], right[:other])
			checkUnifyAll(t, left[:length], right[:other], want, ok)
		}
	}
	for _, v := range variablesByDefinition(x) {
		if !impl.OccursIn(v, x) || !impl.Unifiable(x, y) || !impl.Unifiable(constructor("list", x), constructor("list", variable(v))) {
			t.Errorf("a wrong answer about %v", x)
		}
	}
}

// sharingUnification returns sides that unify and whose parts share memory with one another.
func sharingUnification() ([]impl.Type, []impl.Type) {
	value := constructor("pair", variable("x"), projection("add", variable("y")))
	whole := constructor("f", value, constructor("list", value), value)
	a, b := variable("a"), variable("b")
	return []impl.Type{constructor("f", a, b, variable("c")), variable("d"), value, whole.Args[1], variable("y")}, []impl.Type{whole, whole, variable("e"), b, constructor("list", constructor("unit"))}
}

func TestUnifyReturnsNewMemory(t *testing.T) {
	a, b := sharingUnification()
	var results [][]impl.Binding
	for range 2 {
		one, ok := impl.Unify(a[0], b[0])
		two, found := impl.UnifyAll(a, b)
		if !ok || !found || len(one) != 3 || len(two) != 6 {
			t.Fatalf("Unify or UnifyAll is wrong on types that share memory: %v, %v", one, two)
		}
		results = append(results, one, two)
	}
	checkNewMemory(t, slices.Concat(a, b), results...)
}

func TestChangedArgumentsLeaveAUnifier(t *testing.T) {
	a, b := sharingUnification()
	one, _ := impl.Unify(a[0], b[0])
	two, _ := impl.UnifyAll(a, b)
	for _, cell := range cellsOfTypes(a, b) {
		*cell = variable("changed")
	}
	value := "(pair 'x (assoc add 'y))"
	if want := bindingsIn(t, "a: "+value+", b: (list "+value+"), c: "+value); !sameBindings(one, want) {
		t.Errorf("Unify shares memory with an argument: %v, want %v", one, want)
	}
	value = "(pair 'x (assoc add (list unit)))"
	if want := bindingsIn(t, "a: "+value+", b: (list "+value+"), c: "+value+", d: (f "+value+" (list "+value+") "+value+"), e: "+value+", y: (list unit)"); !sameBindings(two, want) {
		t.Errorf("UnifyAll shares memory with an argument: %v, want %v", two, want)
	}
}

// An empty slice of an argument has memory too, if it has capacity.
func TestEmptySlicesInAUnifierAreNew(t *testing.T) {
	room := make([]impl.Type, 1, 4)
	empty := impl.Type{Kind: 2, Name: "unit", Args: room[:0]}
	one, _ := impl.Unify(variable("a"), empty)
	two, _ := impl.UnifyAll(typesIn(t, "'a,'b"), []impl.Type{constructor("list", variable("b")), empty})
	for _, b := range append(one, two...) {
		b.Type.Args = append(b.Type.Args, variable("changed"))
		if b.Var == "a" && len(b.Type.Args) == 2 {
			b.Type.Args[0].Args = append(b.Type.Args[0].Args, variable("changed"))
		}
	}
	for _, x := range room[:cap(room)] {
		if !sameType(x, impl.Type{}) {
			t.Errorf("a result shares the unused capacity of an argument: %v", x)
		}
	}
}

// Neither depth, width nor the number of variables may exhaust anything.
func TestUnifyFarBeyondTheLimits(t *testing.T) {
	const depth, width = 1000000, 200000
	a, n := variable("a"), constructor("int")
	deep, other := nestType(a, depth), nestType(n, depth)
	for _, pair := range [][2]impl.Type{{deep, other}, {a, other}, {other, a}, {deep, n}, {typeWith(2, "f", width, a), typeWith(2, "f", width, n)}} {
		if list, ok := impl.Unify(pair[0], pair[1]); ok || list != nil || impl.Unifiable(pair[0], pair[1]) {
			t.Errorf("types that are too large unify: %s", brief(list))
		}
	}
	if list, ok := impl.Unify(deep, nestType(a, depth)); !ok || len(list) != 0 || !impl.Unifiable(other, nestType(n, depth)) || impl.Unifiable(deep, deep) {
		t.Error("a wrong answer about large types that are equal")
	}
	if !impl.OccursIn("a", deep) || impl.OccursIn("a", other) || !impl.OccursIn("a", constructor("f", append(slices.Repeat([]impl.Type{n}, width), a)...)) {
		t.Error("OccursIn is wrong about large types")
	}
	var vars, next, lists []impl.Type
	var want []impl.Binding
	for i := range width {
		vars = append(vars, variable("a"+strconv.Itoa(i)))
		next = append(next, variable("a"+strconv.Itoa(i+1)))
		lists = append(lists, constructor("list", next[i]))
		want = append(want, bind("a"+strconv.Itoa(i), variable("a"+strconv.Itoa(width))))
	}
	first := slices.Repeat(vars[:1], width)
	if list, ok := impl.UnifyAll(slices.Concat(vars, first), slices.Concat(next, vars)); !ok || !impl.EqualBindings(list, want) {
		t.Error("a wrong answer about a long chain of variables")
	}
	if list, ok := impl.UnifyAll(append(vars, n), append(lists, constructor("bool"))); ok || list != nil {
		t.Error("a wrong answer about types that would be nested too deep")
	}
	if list, ok := impl.UnifyAll(slices.Concat(vars, vars), slices.Concat(slices.Repeat([]impl.Type{n}, width), next[:width-1], []impl.Type{n})); !ok || len(list) != width || list[width-1].Var != "a"+strconv.Itoa(width-1) {
		t.Error("a wrong answer about many variables")
	}
}

// chains returns two types whose unification binds 'u0 to 'u60 one after the other, 'u0 to a type of 'u1 and so on, and the same for 'v0 to 'v60.
// Where the values are written out, they have more parts than can be counted.
func chains(u, v func(next impl.Type) impl.Type, last, other [2]impl.Type) (impl.Type, impl.Type) {
	const length = 60
	var left, right []impl.Type
	name := func(chain string, i int) impl.Type { return variable(chain + strconv.Itoa(i)) }
	for i := range length + 1 {
		// The variables of the right side have the names x and y, so that they need not be renamed.
		left = append(left, name("u", i), name("v", i))
		right = append(right, name("x", i), name("y", i))
	}
	left, right = append(left, last[0]), append(right, last[1])
	for i := range length {
		left = append(left, name("u", i), name("v", i))
		right = append(right, u(name("x", i+1)), v(name("y", i+1)))
	}
	return constructor("f", append(left, other[0])...), constructor("f", append(right, other[1])...)
}

// No value is written out where nobody asks for it.
func TestUnifyOfValuesOfAnyExtent(t *testing.T) {
	list := func(x impl.Type) impl.Type { return constructor("list", x) }
	pair := func(x impl.Type) impl.Type { return constructor("pair", x, x) }
	u0, y0, u60, y60, n := variable("u0"), variable("y0"), variable("u60"), variable("y60"), constructor("int")
	inside := func(x impl.Type) impl.Type { return list(pair(x)) }
	around := func(x impl.Type) impl.Type { return pair(list(x)) }
	for i, c := range []struct {
		u, v        func(impl.Type) impl.Type
		last, other [2]impl.Type
		want        bool
	}{
		// The ends are nowhere compared.
		{pair, pair, [2]impl.Type{n, n}, [2]impl.Type{n, n}, true}, {pair, pair, [2]impl.Type{n, n}, [2]impl.Type{n, constructor("bool")}, false},
		// Written out, the two values are the same, or differ at their ends, or all over.
		{pair, pair, [2]impl.Type{u60, y60}, [2]impl.Type{u0, y0}, true}, {pair, pair, [2]impl.Type{n, n}, [2]impl.Type{u0, y0}, false}, {pair, around, [2]impl.Type{u60, y60}, [2]impl.Type{u0, y0}, false}, {inside, inside, [2]impl.Type{y60, u60}, [2]impl.Type{y0, u0}, true},
		{pair, pair, [2]impl.Type{constructor("pair", u60, u60), constructor("pair", n, y60)}, [2]impl.Type{u0, y0}, true}, {pair, pair, [2]impl.Type{constructor("pair", u60, variable("v60")), constructor("pair", n, dyn("s"))}, [2]impl.Type{u0, y0}, false},
		// The parts that are the same stand at different places of the two chains.
		{around, inside, [2]impl.Type{u60, pair(y60)}, [2]impl.Type{u0, pair(y0)}, true}, {around, inside, [2]impl.Type{u60, pair(y60)}, [2]impl.Type{list(u0), list(pair(y0))}, true}, {around, inside, [2]impl.Type{u60, list(y60)}, [2]impl.Type{u0, pair(y0)}, false},
		// They are not the same, and too large to unify.
		{pair, pair, [2]impl.Type{n, n}, [2]impl.Type{pair(u0), variable("w")}, false}, {pair, pair, [2]impl.Type{n, n}, [2]impl.Type{variable("w"), y0}, false}, {pair, pair, [2]impl.Type{u60, y60}, [2]impl.Type{pair(u0), y0}, false},
	} {
		a, b := chains(c.u, c.v, c.last, c.other)
		if got := impl.Unifiable(a, b); got != c.want {
			t.Errorf("Unifiable is %v in case %d", got, i)
		}
		if list, ok := impl.UnifyAll([]impl.Type{a, n}, []impl.Type{b, constructor("bool")}); ok || list != nil {
			t.Errorf("UnifyAll finds a unifier in case %d", i)
		}
	}
}

// Only functions that leave alone what they are not asked for come to an end on these.
func TestUnifyWithoutBounds(t *testing.T) {
	doubled, again, loop, long := variable("a"), variable("a"), make([]impl.Type, 1), make([]impl.Type, 1)
	for range 100 {
		doubled, again = constructor("pair", doubled, doubled), constructor("pair", again, again)
	}
	loop[0] = impl.Type{Kind: impl.TypeProjection, Name: "add", Args: loop}
	long[0] = projection("add", impl.Type{Kind: impl.TypeProjection, Name: "add", Args: long})
	a, b, n := variable("a"), variable("b"), constructor("int")
	for i, x := range []impl.Type{doubled, again, loop[0], long[0], constructor("list", loop[0])} {
		for _, y := range []impl.Type{a, b, n, constructor("pair", a, a), projection("add", b), nestType(x, 3)} {
			for _, sides := range [][2]impl.Type{{x, y}, {y, x}, {constructor("pair", n, x), constructor("pair", b, y)}, {constructor("pair", b, y), constructor("pair", n, x)}} {
				if list, ok := impl.Unify(sides[0], sides[1]); ok || list != nil {
					t.Errorf("Unify finds a unifier with type %d: %s", i, brief(list))
				}
			}
		}
		if list, ok := impl.UnifyAll([]impl.Type{b, x}, []impl.Type{n, x}); !ok || !sameBindings(list, []impl.Binding{bind("b", n)}) {
			t.Errorf("UnifyAll is wrong on type %d twice: %s, %v", i, brief(list), ok)
		}
		if list, ok := impl.UnifyAll([]impl.Type{b, x}, []impl.Type{x}); ok || list != nil {
			t.Errorf("UnifyAll finds a unifier for slices of different lengths with type %d", i)
		}
		if !impl.OccursIn("b", constructor("pair", b, x)) || !impl.OccursIn("b", constructor("pair", typeWith(1, "c", 1, b), x)) {
			t.Errorf("OccursIn looks at type %d without need", i)
		}
	}
	for _, sides := range [][2]impl.Type{{doubled, again}, {loop[0], long[0]}, {long[0], loop[0]}} {
		if list, ok := impl.Unify(sides[0], sides[1]); !ok || len(list) != 0 {
			t.Errorf("types without bounds that are the same do not unify: %s", brief(list))
		}
	}
}
