package tests

import (
	"maps"
	"slices"
	"strings"
	"testing"

	"loop.example/g03111/impl"
)

func TestTableOf(t *testing.T) {
	for _, c := range []struct{ system, ctx, term, want string }{
		{"bound 2", "", "add(2,2)", "1"},
		{"bound 2", "", "pair(1,2)", "5"},
		{"bound 2", "", "right:n(box:1(1))", "4"},
		{"bound 2", "n", "x0", "0 1 2"},
		{"bound 2", "n", "1", "1 1 1"},
		{"bound 2", "n", "add(x0,x0)", "0 2 1"},
		{"bound 2", "n n", "if(x1,x0,2)", "0 1 2 2 2 2 2 2 2"},
		{"bound 2", "n n", "x0", "0 1 2 0 1 2 0 1 2"},
		{"bound 2", "n n", "x1", "0 0 0 1 1 1 2 2 2"},
		{"bound 2", "n n", "pair(x0,x1)", "0 3 6 1 4 7 2 5 8"},
		{"bound 2", "n n", "pair(x1,x0)", "0 1 2 3 4 5 6 7 8"},
		{"bound 2", "+nn n", "pair(x1,x0)", "0 1 2 3 4 5 6 7 8 9 10 11 12 13 14 15 16 17"},
		{"bound 2", "n +nn", "pair(x1,x0)", "0 1 2 3 4 5 6 7 8 9 10 11 12 13 14 15 16 17"},
		{"bound 2", "n +nn", "x1", "0 0 0 1 1 1 2 2 2 3 3 3 4 4 4 5 5 5"},
		{"bound 2", "+nn n", "x1", "0 0 0 0 0 0 1 1 1 1 1 1 2 2 2 2 2 2"},
		{"bound 2", "+nn", "case:1(x0,x0,add(x0,1))", "0 1 2 1 2 0"},
		{"bound 2", "*nn", "split:1(x0,add(x0,add(x1,1)))", "1 2 0 2 0 1 0 1 2"},
		{"bound 2", "!2.n", "open:1(x0,right:!1.n(add(x0,x0)))", "3 5 4"},
		{"bound 2", "n n n", "if(x2,x1,x0)", "0 0 0 1 1 1 2 2 2 0 1 2 0 1 2 0 1 2 0 1 2 0 1 2 0 1 2"},
		{"bound 2", power(5), "2", strings.TrimSuffix(strings.Repeat("2 ", 243), " ")},
		{"bound 2", "n n n n n", "1", strings.TrimSuffix(strings.Repeat("1 ", 243), " ")},
		{"count 2", "n", "app(fun:2:n(add(x0,x0)),x0)", "0 2 1"},
		{"level 2", "n", "box:2(x0)", "0 1 2"},
	} {
		s, ctx, x := systemOf(t, c.system), contextOf(t, c.ctx), parsed(t, c.term)
		if got := table(t, s, ctx, x); got != c.want {
			t.Errorf("%s: TableOf of %s in %q is %s, not %s", c.system, c.term, c.ctx, got, c.want)
		}
	}
}

// TestTableOfMostLists looks at lists and at values of just the number that is allowed, and of more.
func TestTableOfMostLists(t *testing.T) {
	s := impl.BoundSystem(2)
	most := sumOf(power(5), power(3), power(3), "n")
	over := sumOf(power(5), power(3), power(3), "n", "n")
	nearly := sumOf(power(4), power(2), power(2))
	wide := "*+nn*+nn*+nn*+nn*+nn*+nn*+nn+nn"
	for _, c := range []struct {
		ctx   string
		lists int
	}{
		{most, 300},
		{over, 0},
		{"n " + nearly, 297},
		{nearly + " n", 297},
		{"n " + sumOf(power(4), power(2), power(2), "n"), 0},
		{sumOf(power(4), power(2), power(2), "n") + " n", 0},
		{"n n n n n", 243},
		{"n n n n n n", 0},
		{"n n n n n n n n", 0},
		{"n n n " + power(2), 243},
		{power(3) + " " + power(2), 243},
		{power(3) + " " + power(3), 0},
		{"n " + most, 0},
		{most + " n", 0},
		{"+nn +nn +nn", 216},
		{"+nn +nn +nn n", 0},
		{power(6), 0},
		{"n " + power(6), 0},
		{power(6) + " n", 0},
		{power(20), 0},
		// Products that would overflow, the last one to 0.
		{strings.Repeat(power(20)+" ", 8), 0},
		{strings.Repeat(most+" ", 8), 0},
		{strings.Repeat(wide+" ", 8), 0},
	} {
		ctx := contextOf(t, c.ctx)
		want := strings.TrimSuffix(strings.Repeat("2 ", c.lists), " ")
		if c.lists == 0 {
			want = "fails"
		}
		if got := table(t, s, ctx, numberTerm(2)); got != want {
			t.Errorf("TableOf of 2 in %q is %s, not %d times 2", c.ctx, got, c.lists)
		}
		for i := range ctx {
			if d, ok := impl.DependsOn(s, ctx, numberTerm(2), i); d || ok != (c.lists > 0) {
				t.Errorf("DependsOn of 2 in %q for the variable %d is %v, %v", c.ctx, i, d, ok)
			}
		}
		// Evaluate has no such limit.
		var values []impl.Term
		for _, ty := range ctx {
			v, _ := impl.DefaultTerm(s, ty)
			values = append(values, v)
		}
		if got := evaluated(t, s, ctx, numberTerm(2), values); !strings.HasPrefix(got, "2") {
			t.Errorf("Evaluate of 2 in %q is %s", c.ctx, got)
		}
	}
	if got := table(t, s, contextOf(t, most), variableTerm(0)); len(strings.Fields(got)) != 300 || !strings.HasSuffix(got, " 298 299") {
		t.Errorf("TableOf of x0 for 300 values is %s", got)
	}
	for text, want := range map[string]string{
		"left:" + sumOf(power(3), power(3), "n") + "(" + strings.Repeat("pair(2,", 4) + "2)))))": "242",
		slowDefault(parsedType(t, most)):                                              "0",
		slowDefault(parsedType(t, over)):                                              "fails",
		strings.Repeat("pair(2,", 4) + "2))))":                                        "242",
		strings.Repeat("pair(2,", 5) + "2)))))":                                       "fails",
		"pair(" + slowDefault(parsedType(t, most)) + ",0)":                            "fails",
		"left:" + power(5) + "(0)":                                                    "0",
		"right:" + power(5) + "(0)":                                                   "243",
		"left:" + power(6) + "(0)":                                                    "fails",
		"right:" + power(6) + "(0)":                                                   "fails",
		"split:1(pair(1," + strings.Repeat("pair(2,", 5) + "2)))))" + "),x1)":         "1",
		"app(fun:0:" + power(6) + "(2)," + slowDefault(parsedType(t, power(6))) + ")": "2",
	} {
		if got := table(t, s, nil, parsed(t, text)); got != want {
			t.Errorf("TableOf of %s is %s, not %s", text, got, want)
		}
		if got := evaluated(t, s, nil, parsed(t, text), nil); got == "fails" {
			t.Errorf("Evaluate of %s fails", text)
		}
	}
}

// TestTableOfWhereOneListFails looks at terms that take too many looks for one list alone.
func TestTableOfWhereOneListFails(t *testing.T) {
	s := impl.BoundSystem(2)
	far := doubling(30, "1")
	for _, c := range []struct{ ctx, term, want string }{
		{"n", "if(x0," + far + ",2)", "fails"},
		{"n", "if(x0,2," + far + ")", "fails"},
		{"n", "if(x0,2,if(add(x0,1)," + far + ",2))", "fails"},
		{"n n", "if(x1,2,if(add(x0,add(x1,2))," + far + ",2))", "fails"},
		{"n", "if(x0,2,if(x0," + far + ",1))", "2 1 1"},
		{"+nn", "case:1(x0,0," + far + ")", "fails"},
		// Each if takes three looks ahead of what it leads to.
		{"n", "if(x0,1," + looking(2997) + ")", "1 2 2"},
		{"n", "if(x0,1," + looking(2998) + ")", "fails"},
		{"n", "if(x0," + looking(2997) + ",1)", "2 1 1"},
		{"n", "if(x0," + looking(2998) + ",1)", "fails"},
		{"n", "if(x0,0,if(x0,1," + looking(2994) + "))", "0 2 2"},
		{"n", "if(x0,0,if(x0,1," + looking(2995) + "))", "fails"},
	} {
		ctx, x := contextOf(t, c.ctx), parsed(t, c.term)
		got := table(t, s, ctx, x)
		if want := slowTable(t, s, ctx, []int{0}, x); got != want || got != c.want {
			t.Errorf("TableOf of %s is %s, not %s", c.term, got, c.want)
		}
		if d, ok := impl.DependsOn(s, ctx, x, 0); ok != (got != "fails") || d && !ok {
			t.Errorf("DependsOn of %s is %v, %v", c.term, d, ok)
		}
	}
}

// slowDepends compares all lists with each other.
func slowDepends(lists [][]impl.Term, places []string, i int) bool {
	for k, l := range lists {
		for n, other := range lists {
			alone := true
			for j := range l {
				alone = alone && (j == i || equalTerms(l[j], other[j]))
			}
			if alone && places[k] != places[n] {
				return true
			}
		}
	}
	return false
}

func TestDependsOn(t *testing.T) {
	s := impl.BoundSystem(2)
	for _, c := range []struct{ ctx, term, want string }{
		{"n", "x0", "yes"},
		{"n", "1", "no"},
		{"n", "add(x0,add(x0,x0))", "no"},
		{"n n", "if(x1,x0,x0)", "yes no"},
		{"n n", "if(x1,x0,2)", "yes yes"},
		{"n n n", "x0", "yes no no"},
		{"n n n", "x1", "no yes no"},
		{"n n n", "x2", "no no yes"},
		{"n n n", "if(x2,x1,x1)", "no yes no"},
		{"n n n", "if(x2,x0,x1)", "yes yes yes"},
		{"+nn n +nn", "case:1(x0,0,0)", "no no no"},
		{"+nn n +nn", "case:1(x0,x2,0)", "yes yes no"},
		{"+nn n +nn", "case:1(x2,0,1)", "no no yes"},
		// A difference between two values of which neither is the first one, and for few values of the others alone.
		{"n", "if(x0,1,if(add(x0,1),1,1))", "no"},
		{"n", "if(x0,1,if(add(x0,1),0,1))", "yes"},
		{"n", "if(x0,1,if(add(x0,2),0,1))", "yes"},
		{"n n", "if(add(x0,1),if(add(x1,1),1,0),0)", "yes yes"},
		{"n n", "if(x0,if(x1,1,0),0)", "yes yes"},
		{"n +nn", "case:1(x1,0,if(add(x1,1),if(add(x0,1),2,0),0))", "yes yes"},
		{"!1.n *nn", "split:1(x1,x0)", "no yes"},
		{"n !2.n *nn n", "add(x3,open:1(x1,x0))", "no yes no yes"},
		{"n n", "pair(0,box:0(x1))", "no yes"},
		// A difference in the last list alone.
		{"n n n n n", "if(add(x0,1),if(add(x1,1),if(add(x2,1),if(add(x3,1),if(add(x4,1),1,0),0),0),0),0)", "yes yes yes yes yes"},
	} {
		ctx, x := contextOf(t, c.ctx), parsed(t, c.term)
		var got []string
		for i := range ctx {
			d, ok := impl.DependsOn(s, ctx, x, i)
			got = append(got, map[[2]bool]string{{true, true}: "yes", {false, true}: "no", {true, false}: "wrong", {false, false}: "fails"}[[2]bool{d, ok}])
		}
		if strings.Join(got, " ") != c.want {
			t.Errorf("%s in %s depends on its variables: %v, not %s", c.term, c.ctx, got, c.want)
		}
		for _, i := range []int{-1 << 63, -1 << 32, -2, -1, len(ctx), len(ctx) + 1, 8, 9, 1 << 32, 1<<63 - 1} {
			if d, ok := impl.DependsOn(s, ctx, x, i); d || ok {
				t.Errorf("DependsOn of %s for the variable %d is %v, %v", c.term, i, d, ok)
			}
		}
	}
	for _, i := range []int{-1, 0, 1} {
		if d, ok := impl.DependsOn(s, nil, numberTerm(1), i); d || ok {
			t.Errorf("DependsOn of 1 without variables for the variable %d is %v, %v", i, d, ok)
		}
	}
	for reason, text := range noPrograms() {
		if d, ok := impl.DependsOn(s, [][]int{{20, 0}}, parsed(t, text), 0); (d || ok) && text != "x0" {
			t.Errorf("DependsOn of %s (%s) is %v, %v", text, reason, d, ok)
		}
	}
	for name, bad := range badSystems() {
		if d, ok := impl.DependsOn(bad, [][]int{{0}}, variableTerm(0), 0); d || ok {
			t.Errorf("%s: DependsOn is %v, %v", name, d, ok)
		}
	}
}

// TestTablesOfMadeTerms asks for each list, and for each variable.
func TestTablesOfMadeTerms(t *testing.T) {
	tables, dependent, independent := 0, 0, 0
	for _, name := range slices.Sorted(maps.Keys(goodSystems())) {
		m := newTypedMaker(systemOf(t, name))
		for i := range 40 {
			ctx := m.dataContext(3)
			count := 1
			for _, ty := range ctx {
				count *= slowCount(ty)
			}
			if count > 100 {
				continue
			}
			x, ty := m.makeData(ctx, 8+i%40)
			want := slowTable(t, m.s, ctx, ty, x)
			if got := table(t, m.s, ctx, x); got != want {
				t.Fatalf("%s: TableOf of %s is %s, not %s", name, textOf(x), got, want)
			}
			if want == "fails" {
				continue
			}
			tables++
			lists := valueLists(t, ctx)
			for j := range ctx {
				d, ok := impl.DependsOn(m.s, ctx, x, j)
				if !ok || d != slowDepends(lists, strings.Fields(want), j) {
					t.Fatalf("%s: DependsOn of %s for the variable %d is %v, %v", name, textOf(x), j, d, ok)
				}
				if d {
					dependent++
				} else {
					independent++
				}
			}
		}
	}
	if tables < 300 || dependent < 50 || independent < 50 {
		t.Errorf("only %d tables, with %d variables on which a term depends, and %d others", tables, dependent, independent)
	}
}

func TestTablesShareNoMemory(t *testing.T) {
	s := impl.BoundSystem(2)
	ctx := contextOf(t, "n +nn")
	x := parsed(t, "pair(x1,x0)")
	wide := wideContext(ctx)
	first, _ := impl.TableOf(s, wide, x)
	for i := range first[:cap(first)] {
		first[:cap(first)][i] = -9
	}
	second, ok := impl.TableOf(s, wide, x)
	if !ok || len(second) != 18 || slices.Contains(second, -9) || !keptContext(wide, ctx) {
		t.Errorf("TableOf keeps what it returned, or returns memory of its argument")
	}
}

func TestKeeps(t *testing.T) {
	type cells = []impl.Cell
	for _, c := range []struct {
		system string
		cells  cells
		want   bool
	}{
		{"bound 2", nil, true},
		{"bound 2", cells{}, true},
		{"bound 2", cells{{Budget: 2, Booked: 2}}, true},
		{"bound 2", cells{{Budget: 2, Booked: 1}}, true},
		{"bound 2", cells{{Budget: 1, Booked: 2}}, false},
		{"bound 2", cells{{Budget: 3, Booked: 3}, {Budget: 0, Booked: 0}, {Budget: 3, Booked: 0}}, true},
		{"bound 2", cells{{Budget: 0, Booked: 1}, {Budget: 2, Booked: 1}}, false},
		{"bound 2", cells{{Budget: 2, Booked: 1}, {Budget: 0, Booked: 1}}, false},
		{"bound 2", cells{{Budget: 2, Booked: 1}, {Budget: 0, Booked: 1}, {Budget: 2, Booked: 1}}, false},
		{"count 2", cells{{Budget: 2, Booked: 1}}, false},
		{"count 2", cells{{Budget: 3, Booked: 1}, {Budget: 3, Booked: 0}}, true},
		{"level 3", cells{{Budget: 1, Booked: 3}}, true},
		{"level 3", cells{{Budget: 3, Booked: 1}}, false},
		{"level 3", cells{{Budget: 2, Booked: 3}, {Budget: 1, Booked: 0}}, true},
		{"level 3", cells{{Budget: 0, Booked: 3}}, false},
		{"upsideDown", cells{{Budget: 0, Booked: 1}}, true},
		{"upsideDown", cells{{Budget: 1, Booked: 0}}, false},
		{"askew", cells{{Budget: 3, Booked: 2}}, true},
		{"askew", cells{{Budget: 2, Booked: 3}}, false},
	} {
		before := slices.Clone(c.cells)
		if got := impl.Keeps(systemOf(t, c.system), c.cells); got != c.want {
			t.Errorf("%s: Keeps of %v is %v", c.system, c.cells, got)
		}
		if !slices.Equal(before, c.cells) {
			t.Errorf("%s: Keeps changes %v", c.system, before)
		}
	}
	for name, s := range goodSystems() {
		for a := range s.Size {
			for b := range s.Size {
				if impl.Keeps(s, cells{{Budget: b, Booked: a}}) != s.Below[a*s.Size+b] {
					t.Errorf("%s: Keeps is wrong for %d booked of %d", name, a, b)
				}
			}
			for _, g := range strange(s.Size) {
				for _, l := range []cells{
					{{Budget: a, Booked: g}}, {{Budget: g, Booked: a}}, {{Budget: g, Booked: g}},
					{{Budget: 1, Booked: 1}, {Budget: g, Booked: a}}, {{Budget: a, Booked: g}, {Budget: 1, Booked: 1}},
				} {
					if impl.Keeps(s, l) {
						t.Errorf("%s: Keeps of %v", name, l)
					}
				}
			}
		}
	}
	for name, s := range badSystems() {
		for _, l := range []cells{nil, {}, {{}}, {{Budget: 1, Booked: 1}}, {{Budget: -1, Booked: 100}}} {
			if impl.Keeps(s, l) {
				t.Errorf("%s: Keeps of %v", name, l)
			}
		}
	}
	for name, s := range lawBreakers() {
		if impl.Keeps(s, nil) || impl.Keeps(s, cells{{Budget: 1, Booked: 1}}) {
			t.Errorf("%s: Keeps in what is no system", name)
		}
	}
}
