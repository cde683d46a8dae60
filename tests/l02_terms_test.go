package tests

import (
	"slices"
	"strings"
	"testing"

	"loop.example/g03111/impl"
)

// tableTexts has terms of each row of the table, written out.
func tableTexts() map[string]impl.Term {
	x, zero, two := variableTerm(0), numberTerm(0), numberTerm(2)
	kids := func(l ...impl.Term) []impl.Term { return l }
	return map[string]impl.Term{
		"x0":             {Op: 0},
		"x7":             {Op: 0, N: 7},
		"0":              {Op: 1},
		"1":              {Op: 1, N: 1},
		"2":              {Op: 1, N: 2},
		"add(x0,2)":      {Op: 2, Kids: kids(x, two)},
		"if(0,x0,2)":     {Op: 3, Kids: kids(zero, x, two)},
		"pair(2,0)":      {Op: 4, Kids: kids(two, zero)},
		"split:3(x0,x9)": {Op: 5, N: 3, Kids: kids(x, variableTerm(9))},
		"split:?(0,x1)":  {Op: 5, N: -1, Kids: kids(zero, variableTerm(1))},
		"left:n(2)":      {Op: 6, Type: []int{0}, Kids: kids(two)},
		"left:*!?.nn(0)": {Op: 6, Type: []int{1, 36, 0, 0}, Kids: kids(zero)},
		"right:n(0)":     {Op: 7, Type: []int{0}, Kids: kids(zero)},
		"right:>0.n>15.nn(x0)": {
			Op: 7, Type: []int{3, 0, 18, 0, 0}, Kids: kids(x),
		},
		"case:15(2,x8,x0)":    {Op: 8, N: 15, Kids: kids(two, variableTerm(8), x)},
		"case:?(2,0,x8)":      {Op: 8, N: -1, Kids: kids(two, zero, variableTerm(8))},
		"fun:10:+nn(x8)":      {Op: 9, N: 10, Type: []int{2, 0, 0}, Kids: kids(variableTerm(8))},
		"fun:?:>?.n!15.n(x0)": {Op: 9, N: -1, Type: []int{35, 0, 34, 0}, Kids: kids(x)},
		"app(x0,x0)":          {Op: 10, Kids: kids(x, x)},
		"box:0(2)":            {Op: 11, Kids: kids(two)},
		"box:?(0)":            {Op: 11, N: -1, Kids: kids(zero)},
		"open:1(x0,x8)":       {Op: 12, N: 1, Kids: kids(x, variableTerm(8))},
		"open:?(box:2(0),add(x0,1))": {Op: 12, N: -1, Kids: kids(
			impl.Term{Op: 11, N: 2, Kids: kids(zero)}, impl.Term{Op: 2, Kids: kids(x, numberTerm(1))})},
	}
}

func TestTermsOfTheTable(t *testing.T) {
	for text, x := range tableTexts() {
		if !impl.IsWritten(x) || impl.SizeOfTerm(x) != 1+strings.Count(text, "(")+strings.Count(text, ",") {
			t.Errorf("%s is no written term, or its size is wrong", text)
		}
		if got := impl.FormatTerm(x); got != text {
			t.Errorf("FormatTerm of %s is %q", text, got)
		}
		if got, ok := impl.ParseTerm(text); !ok || !equalTerms(got, x) || !impl.SameTerms(got, x) {
			t.Errorf("ParseTerm(%q) is %v, %v", text, got, ok)
		}
		if impl.IsTerm(impl.LevelSystem(15), x, 8) == strings.Contains(text, "?") {
			t.Errorf("IsTerm of %s is wrong", text)
		}
	}
}

func TestMadeTerms(t *testing.T) {
	for _, size := range []int{2, 4, 16} {
		s := impl.LevelSystem(size - 1)
		for _, open := range []bool{true, false} {
			m := newTermMaker(size, open)
			for i := range 300 {
				nodes, variables := 1+i%40, i%9
				x, text := m.make(nodes, variables)
				if !impl.IsWritten(x) || impl.SizeOfTerm(x) != nodes || impl.FormatTerm(x) != text {
					t.Fatalf("%s is not written so, or its size is wrong", text)
				}
				if got, ok := impl.ParseTerm(text); !ok || !equalTerms(got, x) {
					t.Fatalf("ParseTerm(%q) fails or is another term", text)
				}
				if n := variables; impl.IsTerm(s, x, n) != slowIsTerm(x, size, false, n) {
					t.Fatalf("IsTerm of %s for %d is wrong", text, n)
				}
			}
		}
	}
}

// TestChangedTerms changes one field of one node after the other.
func TestChangedTerms(t *testing.T) {
	s, m := impl.BoundSystem(2), newTermMaker(4, true)
	bad := badTypes()
	delete(bad, "a million")
	var types [][]int
	for _, x := range append(typesOf(1), typesOf(2)...) {
		types = append(types, x.ty)
	}
	for _, x := range bad {
		types = append(types, x)
	}
	count := [2]int{}
	for i := range 20000 {
		x, text := m.make(2+i%12, 8)
		node := &x
		for len(node.Kids) > 0 && m.r.Intn(4) > 0 {
			node = &node.Kids[m.r.Intn(len(node.Kids))]
		}
		switch i % 4 {
		case 0:
			node.Op = m.r.Intn(16) - 1
		case 1:
			node.N = m.r.Intn(20) - 2
		case 2:
			node.Type = types[m.r.Intn(len(types))]
		case 3:
			node.Kids = append(node.Kids, numberTerm(0))[m.r.Intn(2):]
		}
		want := slowIsTerm(x, 16, true, 8)
		if want {
			count[0]++
		} else {
			count[1]++
		}
		if impl.IsWritten(x) != want || impl.SizeOfTerm(x) >= 0 != want || impl.FormatTerm(x) != "" != want {
			t.Fatalf("IsWritten, SizeOfTerm or FormatTerm of %v (from %s) is wrong", x, text)
		}
		if impl.IsTerm(s, x, 7) != slowIsTerm(x, 4, false, 7) {
			t.Fatalf("IsTerm of %v (from %s) is wrong", x, text)
		}
	}
	if count[0] < 1000 || count[1] < 1000 {
		t.Errorf("of the terms, %v were written and not", count)
	}
}

func TestVariablesOfTerms(t *testing.T) {
	s := impl.BoundSystem(2)
	for op, r := range rows {
		for k, adds := range r.adds {
			for n := range 9 {
				for i := range 12 {
					kids := slices.Repeat([]impl.Term{numberTerm(0)}, len(r.adds))
					kids[k] = variableTerm(i)
					x := leastTerm(op, kids...)
					if impl.IsTerm(s, x, n) != (i < n+adds) {
						t.Errorf("IsTerm of %s for %d is wrong", textOf(x), n)
					}
					if impl.IsWritten(x) != (i < 8+adds) {
						t.Errorf("IsWritten of %s is wrong", textOf(x))
					}
					if _, ok := impl.ParseTerm(textOf(x)); ok != (i < 8+adds) {
						t.Errorf("ParseTerm(%q) is wrong", textOf(x))
					}
					under := leastTerm(impl.TmSplit, x, x)
					if impl.IsTerm(s, under, n) != (i < n+adds) || impl.IsTerm(s, under.Kids[1], n) != (i < n+adds) {
						t.Errorf("IsTerm of %s for %d is wrong", textOf(under), n)
					}
					under.Kids[0] = numberTerm(0)
					if impl.IsTerm(s, under, n) != (i < n+adds+2) || impl.IsWritten(under) != (i < 8+adds+2) {
						t.Errorf("IsTerm or IsWritten of %s for %d is wrong", textOf(under), n)
					}
				}
			}
		}
	}
}

// TestVariablesOfDeepTerms has as many added variables as a term has room for.
func TestVariablesOfDeepTerms(t *testing.T) {
	for beyond := range 2 {
		x := variableTerm(8 + 399 - 1 + beyond)
		for range 399 {
			x = leastTerm(impl.TmFun, x)
		}
		if impl.IsWritten(x) != (beyond == 0) || impl.IsTerm(impl.BoundSystem(1), x, 8) != (beyond == 0) || impl.IsTerm(impl.BoundSystem(1), x, 7) {
			t.Errorf("IsTerm or IsWritten is wrong for a variable under 399 functions")
		}
		x = variableTerm(8 + 2*199 - 1 + beyond)
		for range 199 {
			x = leastTerm(impl.TmSplit, numberTerm(0), x)
		}
		if impl.IsWritten(x) != (beyond == 0) || impl.FormatTerm(x) != "" != (beyond == 0) {
			t.Errorf("IsWritten is wrong for a variable under 199 splits")
		}
		if got, ok := impl.ParseTerm(textOf(x)); ok != (beyond == 0) || ok && !equalTerms(got, x) {
			t.Errorf("ParseTerm is wrong for a variable under 199 splits")
		}
	}
}

func TestGradesOfTerms(t *testing.T) {
	systems := goodSystems()
	systems["level 15"] = impl.LevelSystem(15)
	for op, r := range rows {
		kids := slices.Repeat([]impl.Term{numberTerm(0)}, len(r.adds))
		for name, s := range systems {
			for g := -2; g < 18; g++ {
				isGrade := g >= 0 && g < s.Size
				x := leastTerm(op, kids...)
				if r.graded {
					x.N = g
					if impl.IsTerm(s, x, 0) != isGrade || impl.IsTerm(s, leastTerm(impl.TmBox, x), 0) != isGrade {
						t.Errorf("%s: IsTerm with the op %d and the grade %d is wrong", name, op, g)
					}
					if impl.IsWritten(x) != (g >= -1 && g < 16) {
						t.Errorf("IsWritten with the op %d and the grade %d is wrong", op, g)
					}
				}
				x = leastTerm(op, kids...)
				if r.typed && g >= 0 && g < 16 {
					x.Type = []int{impl.TyArrow + g, impl.TyBox + g, 0, 0}
					if impl.IsTerm(s, x, 0) != isGrade || !impl.IsWritten(x) {
						t.Errorf("%s: the op %d and a type with %d are wrong", name, op, g)
					}
				}
			}
		}
		if r.typed {
			for _, ty := range [][]int{{35, 0, 0}, {36, 0}, {1, 0, 36, 0}} {
				x := leastTerm(op, kids...)
				x.Type = ty
				if impl.IsTerm(impl.LevelSystem(15), x, 0) || !impl.IsWritten(x) {
					t.Errorf("the op %d and the open type %v are wrong", op, ty)
				}
			}
			for text, ty := range longTypes(40) {
				x := leastTerm(op, kids...)
				x.Type = ty
				if impl.IsTerm(impl.BoundSystem(1), x, 0) == strings.Contains(text, "?") || !impl.IsWritten(x) {
					t.Errorf("the op %d and the type %s are wrong", op, text)
				}
			}
		}
	}
}

func TestNumbersOfVariablesOfTerms(t *testing.T) {
	s, x := impl.BoundSystem(2), numberTerm(0)
	for n := range 9 {
		if !impl.IsTerm(s, x, n) {
			t.Errorf("IsTerm fails for %d variables", n)
		}
	}
	for _, n := range []int{-1 << 63, -9, -1, 9, 10, 1 << 32, 1<<63 - 1} {
		if impl.IsTerm(s, x, n) || impl.IsTerm(s, variableTerm(0), n) {
			t.Errorf("IsTerm holds for %d variables", n)
		}
	}
	for name, s := range badSystems() {
		if impl.IsTerm(s, x, 0) || impl.IsTerm(s, leastTerm(impl.TmBox, x), 3) {
			t.Errorf("%s: IsTerm holds without a system", name)
		}
	}
}

func TestTermsOfMostNodes(t *testing.T) {
	s := impl.BoundSystem(1)
	for name, x := range towers(400) {
		text := textOf(x)
		if !impl.IsWritten(x) || !impl.IsTerm(s, x, 0) || impl.SizeOfTerm(x) != 400 || impl.FormatTerm(x) != text {
			t.Errorf("%s: a term of 400 nodes is none", name)
		}
		if got, ok := impl.ParseTerm(text); !ok || !equalTerms(got, x) || !impl.SameTerms(got, x) {
			t.Errorf("%s: ParseTerm fails for a term of 400 nodes", name)
		}
		if impl.UsesOf(x, 0) != 0 {
			t.Errorf("%s: UsesOf is not 0", name)
		}
	}
	for name, x := range towers(401) {
		if impl.IsWritten(x) || impl.IsTerm(s, x, 0) || impl.SizeOfTerm(x) != -1 || impl.FormatTerm(x) != "" {
			t.Errorf("%s: a term of 401 nodes is one", name)
		}
		if got, ok := impl.ParseTerm(textOf(x)); ok || !isZeroTerm(got) {
			t.Errorf("%s: ParseTerm reads a term of 401 nodes", name)
		}
		if impl.UsesOf(x, 0) != -1 || impl.SameTerms(x, x) {
			t.Errorf("%s: UsesOf or SameTerms takes a term of 401 nodes", name)
		}
	}
	for times := 1; times <= 8; times++ {
		if got := impl.SizeOfTerm(doubled(times)); got != 1<<times-1 {
			t.Errorf("SizeOfTerm of a term doubled %d times is %d", times, got)
		}
	}
}

func TestNoTerms(t *testing.T) {
	s, good := impl.LevelSystem(15), variableTerm(0)
	for name, bad := range badTerms() {
		for place, x := range map[string]impl.Term{
			"root": bad, "box": leastTerm(impl.TmBox, bad), "last": leastTerm(impl.TmAdd, good, leastTerm(impl.TmPair, good, bad)),
		} {
			where := name + " at " + place
			if impl.IsTerm(s, x, 0) || impl.IsTerm(s, x, 8) || impl.IsWritten(x) || impl.SizeOfTerm(x) != -1 {
				t.Errorf("%s: it is a term", where)
			}
			if impl.SameTerms(x, x) || impl.SameTerms(x, good) || impl.SameTerms(good, x) {
				t.Errorf("%s: SameTerms takes it", where)
			}
			if impl.UsesOf(x, 0) != -1 || impl.FormatTerm(x) != "" {
				t.Errorf("%s: UsesOf or FormatTerm takes it", where)
			}
			for what, f := range map[string]func() (impl.Term, bool){
				"ShiftTerm":               func() (impl.Term, bool) { return impl.ShiftTerm(x, 0, 0) },
				"ShiftTerm of none":       func() (impl.Term, bool) { return impl.ShiftTerm(x, 1, 9) },
				"SubstituteTerm":          func() (impl.Term, bool) { return impl.SubstituteTerm(x, 0, good) },
				"SubstituteTerm with it":  func() (impl.Term, bool) { return impl.SubstituteTerm(good, 0, x) },
				"SubstituteTerm unneeded": func() (impl.Term, bool) { return impl.SubstituteTerm(numberTerm(0), 0, x) },
			} {
				if got, ok := f(); ok || !isZeroTerm(got) {
					t.Errorf("%s: %s returns %v, %v", where, what, got, ok)
				}
			}
		}
	}
}

func TestSameTerms(t *testing.T) {
	m := newTermMaker(4, true)
	var all []impl.Term
	for i := range 150 {
		x, _ := m.make(1+i%6, 3)
		all = append(all, x)
	}
	for i, x := range all {
		for j, y := range all {
			if want := textOf(x) == textOf(y); impl.SameTerms(x, y) != want {
				t.Errorf("SameTerms of %s and %s is %v", textOf(all[i]), textOf(all[j]), !want)
			}
		}
	}
	for name, pair := range map[string][2]string{
		"op":         {"add(0,0)", "pair(0,0)"},
		"no kids":    {"x0", "0"},
		"number":     {"1", "2"},
		"variable":   {"x1", "x2"},
		"grade":      {"box:1(0)", "box:2(0)"},
		"open grade": {"box:?(0)", "box:0(0)"},
		"type":       {"left:n(0)", "left:!1.n(0)"},
		"beginning":  {"left:*nn(0)", "left:*n*nn(0)"},
		"last code":  {"left:*n!1.n(0)", "left:*n!2.n(0)"},
		"first kid":  {"add(0,1)", "add(1,1)"},
		"last kid":   {"if(0,1,2)", "if(0,1,1)"},
		"deep":       {"box:1(box:1(pair(0,x0)))", "box:1(box:1(pair(0,x1)))"},
	} {
		a, b := parsed(t, pair[0]), parsed(t, pair[1])
		if impl.SameTerms(a, b) || impl.SameTerms(b, a) || !impl.SameTerms(a, a) || !impl.SameTerms(b, b) {
			t.Errorf("SameTerms is wrong for terms with another %s", name)
		}
	}
	empty := impl.Term{Op: impl.TmNum, Type: []int{}, Kids: []impl.Term{}}
	if !impl.SameTerms(empty, numberTerm(0)) || !impl.SameTerms(numberTerm(0), empty) {
		t.Error("SameTerms tells nil from empty")
	}
}

func TestUsesOf(t *testing.T) {
	m := newTermMaker(4, true)
	for i := range 500 {
		x, text := m.make(1+i%30, 8)
		for k, name := range names(8) {
			if got := impl.UsesOf(x, k); got != strings.Count(named(x, 0, names(8)), name) {
				t.Fatalf("UsesOf(%s, %d) is %d", text, k, got)
			}
		}
		for _, k := range []int{8, 9, 20, 1 << 32, 1<<63 - 1} {
			if impl.UsesOf(x, k) != 0 {
				t.Fatalf("UsesOf(%s, %d) is not 0", text, k)
			}
		}
		for _, k := range []int{-1, -2, -1 << 32, -1 << 63} {
			if impl.UsesOf(x, k) != -1 {
				t.Fatalf("UsesOf(%s, %d) is not -1", text, k)
			}
		}
	}
	for text, want := range map[string][2]int{
		"x0":                           {1, 0},
		"x1":                           {0, 1},
		"fun:1:n(add(x0,x1))":          {1, 0},
		"split:1(x0,pair(x0,x1))":      {1, 0},
		"split:1(x1,pair(x2,x3))":      {1, 2},
		"case:1(x0,x1,x1)":             {3, 0},
		"case:1(x1,x0,x2)":             {0, 2},
		"open:1(x0,x1)":                {2, 0},
		"open:1(x1,fun:1:n(x2))":       {1, 1},
		"if(x0,x0,x1)":                 {2, 1},
		"app(fun:1:n(x2),box:1(x1))":   {0, 2},
		"fun:1:n(fun:1:n(fun:1:n(0)))": {0, 0},
	} {
		x := parsed(t, text)
		if got := [2]int{impl.UsesOf(x, 0), impl.UsesOf(x, 1)}; got != want {
			t.Errorf("the uses of 0 and 1 in %s are %v", text, got)
		}
	}
}

func TestParseTermOfOtherTexts(t *testing.T) {
	for _, text := range []string{
		"", " ", "x", "X0", "y0", "x00", "x01", "x-1", "x+1", "x 0", "x?", "x0x", "x0 ", " x0", "x0\n", "x8", "x9", "x0,x0", "(x0)",
		"x" + strings.Repeat("9", 100000), "x18446744073709551616", "x9223372036854775808", "x0x1", "x1_0", "x\xd9\xa1",
		"3", "00", "01", "-1", "+1", "?", "1 ", " 1", "10", "1.", "18446744073709551617", "-0", "n", "0)", "0,1", "0x0",
		"add", "add(", "add()", "add(0)", "add(0,)", "add(,0)", "add(0,1", "add(0,1))", "add(0,1,2)", "add(0,1,)", "add(0 ,1)",
		"add(0, 1)", "add (0,1)", "add( 0,1)", "add(0,1 )", "add(0,1) ", "add(0;1)", "add:1(0,1)", "add:n(0,1)", "Add(0,1)", "add0,1",
		"ad(0,1)", "addd(0,1)", "add[0,1]", "add(0,3)", "add(0,x8)", "add(0,add(0,1)", "plus(0,1)", "add(0.1)", "add(01)", "add,0,1)", "add(0(1)",
		"if(0,1)", "if(0,1,2,0)", "if:1(0,1,2)", "if(0,1,2", "pair(0)", "pair(0,1,2)", "pair:1(0,1)", "app(0)", "app(0,1,2)", "app:1(0,1)",
		"split(0,1)", "split:(0,1)", "split:1:n(0,1)", "split:n(0,1)", "split:1(0)", "split:1(0,1,2)", "split:16(0,1)", "split:-1(0,1)",
		"split:01(0,1)", "split:??(0,1)", "split:1?(0,1)", "split :1(0,1)", "split: 1(0,1)", "split:1 (0,1)", "split1(0,1)", "split:1(x8,0)", "split:1(0,x10)",
		"case(0,1,2)", "case:1(0,1)", "case:1(0,1,2,0)", "case:16(0,1,2)", "case:1:n(0,1,2)", "case:1(x8,0,0)", "case:1(0,x9,0)", "case:1(0,0,x9)",
		"open(0,1)", "open:1(0)", "open:16(0,1)", "open:1:n(0,1)", "open:1(x8,0)", "open:1(0,x9)",
		"box(0)", "box:(0)", "box:1()", "box:1(0,1)", "box:16(0)", "box:+1(0)", "box:1:n(0)", "box:n(0)", "box:18446744073709551617(0)",
		"left(0)", "left:(0)", "left:1(0)", "left:1:n(0)", "left:n:1(0)", "left:n()", "left:n(0,1)", "left:nn(0)", "left:*n(0)", "left:!16.n(0)",
		"left:!1.(0)", "left:?(0)", "left: n(0)", "left:n (0)", "leftn(0)", "left:n:n(0)",
		"right(0)", "right:(0)", "right:1:n(0)", "right:n(0,1)", "right:>1.n(0)", "right:!-1.n(0)",
		"fun(0)", "fun:n(0)", "fun:1(0)", "fun:n:1(0)", "fun::n(0)", "fun:1:(0)", "fun:1n(0)", "fun:1:n:(0)", "fun:1:n(0,1)", "fun:16:n(0)", "fun:1:n(x9)",
		"fun:?n(0)", "fun:1:?(0)", "fun:1:!??.n(0)", "fun:1,n(0)", "fun:1:n(0", "fun:1:n0)", "fun:2:n(add(x0, x0))", "fun:2:n(add(x0,x0)))",
		strings.Repeat("box:1(", 1000000) + "0" + strings.Repeat(")", 1000000),
		// More than a stack has room for, if each word is one call further down.
		strings.Repeat("add(", 10000000),
		"left:" + strings.Repeat("!1.", 40) + "n(0)", "left:" + strings.Repeat("*", 1000000) + "n(0)",
	} {
		if got, ok := impl.ParseTerm(text); ok || !isZeroTerm(got) {
			t.Errorf("ParseTerm(%.50q) is %v, %v", text, got, ok)
		}
	}
	for text := range longTypes(42) {
		for _, head := range []string{"left:", "right:", "fun:1:"} {
			if got, ok := impl.ParseTerm(head + text + "(0)"); ok || !isZeroTerm(got) {
				t.Errorf("ParseTerm(%q) is %v, %v", head+text+"(0)", got, ok)
			}
		}
	}
}

// TestParseTermOfChangedTexts changes each byte of many texts: what is still read must be what stands there.
func TestParseTermOfChangedTexts(t *testing.T) {
	m := newTermMaker(16, true)
	readable := 0
	check := func(text string) {
		got, ok := impl.ParseTerm(text)
		if !ok {
			if !isZeroTerm(got) {
				t.Fatalf("ParseTerm(%q) fails and returns %v", text, got)
			}
			return
		}
		readable++
		if textOf(got) != text || !slowIsTerm(got, 16, true, 8) {
			t.Fatalf("ParseTerm(%q) is %s", text, textOf(got))
		}
	}
	for i := range 200 {
		_, text := m.make(1+i%8, 8)
		for k := range text {
			check(text[:k])
			check(text[k:])
			check(text[:k] + text[k+1:])
			for _, c := range "0159x?:.,()n*+>! -abt\x00\xff" {
				check(text[:k] + string(c) + text[k:])
				check(text[:k] + string(c) + text[k+1:])
			}
		}
	}
	if readable < 1000 {
		t.Errorf("only %d texts could be read", readable)
	}
}

func TestShiftTerm(t *testing.T) {
	m := newTermMaker(4, true)
	for i := range 1000 {
		x, text := m.make(1+i%30, 1+i%8)
		for by := range 9 {
			for from := range 10 {
				got, ok := impl.ShiftTerm(x, by, from)
				want := slowShift(x, 0, by, from)
				if ok != slowIsTerm(want, 16, true, 8) || ok && !equalTerms(got, want) || !ok && !isZeroTerm(got) {
					t.Fatalf("ShiftTerm(%s, %d, %d) is %s, %v", text, by, from, textOf(got), ok)
				}
				if !ok {
					continue
				}
				before := names(8)
				behind := slices.Insert(names(8), min(from, 8), slices.Repeat([]string{"-"}, by)...)
				if named(got, 0, behind) != named(x, 0, before) {
					t.Fatalf("ShiftTerm(%s, %d, %d) is %s, which has other variables", text, by, from, textOf(got))
				}
			}
		}
	}
}

func slowShift(t impl.Term, added, by, from int) impl.Term {
	c := impl.Term{Op: t.Op, N: t.N, Type: t.Type}
	if t.Op == impl.TmVar && t.N >= added+from {
		c.N += by
	}
	for k, kid := range t.Kids {
		c.Kids = append(c.Kids, slowShift(kid, added+rows[t.Op].adds[k], by, from))
	}
	return c
}

func TestShiftTermOfChosenArguments(t *testing.T) {
	const most, least = 1<<63 - 1, -1 << 63
	for _, c := range []struct {
		text     string
		by, from int
		want     string
	}{
		{"x0", 0, 0, "x0"},
		{"x0", 1, 0, "x1"},
		{"x0", 7, 0, "x7"},
		{"x0", 8, 0, ""},
		{"x0", most, 0, ""},
		{"x0", most, 1, "x0"},
		{"x0", most, most, "x0"},
		{"x0", 3, most, "x0"},
		{"x7", 0, 7, "x7"},
		{"x7", 1, 7, ""},
		{"x7", 1, 8, "x7"},
		{"x7", 5, 9, "x7"},
		{"x7", most, 8, "x7"},
		{"x7", most - 7, 7, ""},
		{"x7", most - 6, 0, ""},
		{"x0", -1, 0, ""},
		{"x0", least, 0, ""},
		{"x0", 0, -1, ""},
		{"x0", 1, least, ""},
		{"2", -1, 0, ""},
		{"2", 0, -1, ""},
		{"2", most, 0, "2"},
		{"fun:1:n(x0)", most, 0, "fun:1:n(x0)"},
		{"fun:1:n(x0)", 8, 0, "fun:1:n(x0)"},
		{"fun:1:n(x1)", 7, 0, "fun:1:n(x8)"},
		{"fun:1:n(x1)", 8, 0, ""},
		{"fun:1:n(x2)", 3, 1, "fun:1:n(x5)"},
		{"fun:1:n(x1)", 3, 1, "fun:1:n(x1)"},
		{"split:1(x0,add(x0,x2))", 2, 0, "split:1(x2,add(x0,x4))"},
		{"split:1(x1,if(x0,x1,x2))", 2, 0, "split:1(x3,if(x0,x1,x4))"},
		{"split:?(x1,if(x2,x3,x4))", 2, 2, "split:?(x1,if(x2,x3,x6))"},
		{"case:2(x0,add(x0,x1),add(x0,x2))", 4, 1, "case:2(x0,add(x0,x1),add(x0,x6))"},
		{"case:2(x0,add(x0,x1),add(x0,x2))", 4, 0, "case:2(x4,add(x0,x5),add(x0,x6))"},
		{"open:1(x1,pair(x0,x1))", 1, 0, "open:1(x2,pair(x0,x2))"},
		{"left:*n!?.n(x3)", 1, 3, "left:*n!?.n(x4)"},
		{"fun:?:>1.nn(app(x0,box:3(x1)))", 1, 0, "fun:?:>1.nn(app(x0,box:3(x2)))"},
		{"fun:1:n(split:1(x1,fun:1:n(add(x3,x4))))", 2, 0, "fun:1:n(split:1(x3,fun:1:n(add(x3,x6))))"},
	} {
		got, ok := impl.ShiftTerm(parsed(t, c.text), c.by, c.from)
		if ok != (c.want != "") || impl.FormatTerm(got) != c.want && ok || !ok && !isZeroTerm(got) {
			t.Errorf("ShiftTerm(%s, %d, %d) is %s, %v", c.text, c.by, c.from, impl.FormatTerm(got), ok)
		}
	}
}

func TestShiftTermOfMostNodes(t *testing.T) {
	for name, x := range towers(400) {
		if got, ok := impl.ShiftTerm(x, 3, 0); !ok || !equalTerms(got, x) {
			t.Errorf("%s: ShiftTerm fails for a term of 400 nodes", name)
		}
	}
}

func TestSubstituteTerm(t *testing.T) {
	m := newTermMaker(4, true)
	for n := range 1000 {
		x, text := m.make(1+n%30, 8)
		u, put := m.make(1+n%7, 1+n%8)
		for i := range 10 {
			got, ok := impl.SubstituteTerm(x, i, u)
			left := names(8)
			if i < 8 {
				left = slices.Delete(left, i, i+1)
			}
			// In u, the index 7 stands for the last one of eight variables that are left.
			left = append(left, "Z")
			want := named(x, 0, names(8))
			if i < 8 {
				want = strings.ReplaceAll(want, names(8)[i], named(u, 0, left))
			}
			if !ok || named(got, 0, left) != want || !slowIsTerm(got, 16, true, 8) {
				t.Fatalf("SubstituteTerm(%s, %d, %s) is %s, %v", text, i, put, textOf(got), ok)
			}
		}
	}
}

func TestSubstituteTermOfChosenArguments(t *testing.T) {
	const most, least = 1<<63 - 1, -1 << 63
	for _, c := range []struct {
		text string
		i    int
		u    string
		want string
	}{
		{"add(x0,x1)", 0, "x2", "add(x2,x0)"},
		{"add(x0,x1)", 1, "x2", "add(x0,x2)"},
		{"add(x0,x1)", 2, "x2", "add(x0,x1)"},
		{"x0", 0, "x7", "x7"},
		{"x7", 0, "x7", "x6"},
		{"x7", 7, "x7", "x7"},
		{"x7", 6, "0", "x6"},
		{"x7", 8, "0", "x7"},
		{"x7", most, "0", "x7"},
		{"x0", most - 1, "0", "x0"},
		{"fun:1:n(x0)", most, "0", "fun:1:n(x0)"},
		{"1", 0, "x0", "1"},
		{"x0", -1, "0", ""},
		{"x0", least, "0", ""},
		{"1", -1, "0", ""},
		{"fun:1:n(add(x0,x1))", 0, "x0", "fun:1:n(add(x0,x1))"},
		{"fun:1:n(add(x0,x1))", 0, "x3", "fun:1:n(add(x0,x4))"},
		{"fun:1:n(add(x0,x2))", 0, "x3", "fun:1:n(add(x0,x1))"},
		{"fun:1:n(x1)", 0, "fun:2:n(add(x0,x1))", "fun:1:n(fun:2:n(add(x0,x2)))"},
		{"fun:1:n(x1)", 0, "x7", "fun:1:n(x8)"},
		{"split:1(x0,if(x0,x1,x2))", 0, "x1", "split:1(x1,if(x0,x1,x3))"},
		{"split:1(x0,if(x2,x3,x2))", 0, "split:1(x5,x1)", "split:1(split:1(x5,x1),if(split:1(x7,x1),x2,split:1(x7,x1)))"},
		{"case:1(x0,add(x0,x1),add(x1,x2))", 0, "pair(x0,x1)", "case:1(pair(x0,x1),add(x0,pair(x1,x2)),add(pair(x1,x2),x1))"},
		{"open:1(x1,add(x0,x2))", 1, "box:2(x0)", "open:1(box:2(x0),add(x0,box:2(x1)))"},
		{"open:1(x1,add(x0,x1))", 1, "x4", "open:1(x4,add(x0,x1))"},
		{"left:*n!?.n(x3)", 3, "box:?(x3)", "left:*n!?.n(box:?(x3))"},
		{"fun:1:n(split:1(x1,fun:1:n(add(x3,x4))))", 0, "x2", "fun:1:n(split:1(x3,fun:1:n(add(x3,x6))))"},
		{"fun:1:n(split:1(x1,fun:1:n(x0)))", 0, "fun:0:n(x1)", "fun:1:n(split:1(fun:0:n(x2),fun:1:n(x0)))"},
	} {
		got, ok := impl.SubstituteTerm(parsed(t, c.text), c.i, parsed(t, c.u))
		if ok != (c.want != "") || ok && impl.FormatTerm(got) != c.want || !ok && !isZeroTerm(got) {
			t.Errorf("SubstituteTerm(%s, %d, %s) is %s, %v", c.text, c.i, c.u, impl.FormatTerm(got), ok)
		}
	}
}

func TestSubstituteTermUpToMostNodes(t *testing.T) {
	// A term of so many additions, each with the variable 0 once, and once more at the end.
	uses := func(n int) impl.Term {
		x := variableTerm(0)
		for range n - 1 {
			x = leastTerm(impl.TmAdd, variableTerm(0), x)
		}
		return x
	}
	boxes := func(nodes int) impl.Term {
		x := variableTerm(0)
		for range nodes - 1 {
			x = leastTerm(impl.TmBox, x)
		}
		return x
	}
	for _, c := range []struct {
		t, u impl.Term
		size int
	}{
		{uses(1), boxes(400), 400},
		{boxes(400), variableTerm(7), 400},
		{boxes(400), boxes(1), 400},
		{boxes(400), boxes(2), -1},
		{boxes(2), boxes(399), 400},
		{boxes(2), boxes(400), -1},
		{boxes(200), boxes(201), 400},
		{boxes(201), boxes(201), -1},
		{uses(100), boxes(3), 399},
		{leastTerm(impl.TmBox, uses(100)), boxes(3), 400},
		{leastTerm(impl.TmBox, leastTerm(impl.TmBox, uses(100))), boxes(3), -1},
		{uses(200), boxes(1), 399},
		{uses(200), boxes(2), -1},
		{uses(200), boxes(400), -1},
		{leastTerm(impl.TmFun, boxes(399)), boxes(400), 400},
	} {
		got, ok := impl.SubstituteTerm(c.t, 0, c.u)
		if ok != (c.size >= 0) || ok && impl.SizeOfTerm(got) != c.size || !ok && !isZeroTerm(got) {
			t.Errorf("SubstituteTerm(%s, 0, %s) is %v with %d nodes", textOf(c.t), textOf(c.u), ok, impl.SizeOfTerm(got))
		}
	}
}

func TestFunctionsOfTermsChangeNoArgument(t *testing.T) {
	m := newTermMaker(4, true)
	empty := impl.Term{Op: impl.TmNum, Type: make([]int, 0, 3), Kids: make([]impl.Term, 0, 3)}
	for i := range 200 {
		x, _ := m.make(1+i%20, 4)
		u, _ := m.make(1+i%5, 4)
		if i%10 == 0 {
			u = empty
		}
		keepsTerms(t, "IsTerm", func(l []impl.Term) []impl.Term {
			impl.IsTerm(impl.BoundSystem(2), l[0], 4)
			return nil
		}, x)
		keepsTerms(t, "a function of one or two terms", func(l []impl.Term) []impl.Term {
			impl.IsWritten(l[0])
			impl.SizeOfTerm(l[0])
			impl.UsesOf(l[0], 1)
			impl.FormatTerm(l[0])
			impl.SameTerms(l[0], l[1])
			return nil
		}, x, copyOfTerm(x))
		keepsTerms(t, "ParseTerm", func(l []impl.Term) []impl.Term { return []impl.Term{parsed(t, textOf(x))} })
		for k := range 5 {
			keepsTerms(t, "ShiftTerm", func(l []impl.Term) []impl.Term {
				got, _ := impl.ShiftTerm(l[0], k, k/2)
				return []impl.Term{got}
			}, x)
			keepsTerms(t, "SubstituteTerm", func(l []impl.Term) []impl.Term {
				got, _ := impl.SubstituteTerm(l[0], k, l[1])
				return []impl.Term{got}
			}, x, u)
		}
	}
	unchanged(t, "IsTerm", impl.BoundSystem(2), func(s impl.System) { impl.IsTerm(s, leastTerm(impl.TmBox, numberTerm(0)), 0) })
}

// TestTermsThatShareMemory hands over terms whose parts share memory, as a caller may do.
func TestTermsThatShareMemory(t *testing.T) {
	twice := leastTerm(impl.TmFun, leastTerm(impl.TmAdd, variableTerm(0), variableTerm(1)))
	x := leastTerm(impl.TmPair, twice, leastTerm(impl.TmPair, twice, twice))
	const text = "pair(fun:1:n(add(x0,x1)),pair(fun:1:n(add(x0,x1)),fun:1:n(add(x0,x1))))"
	if impl.SizeOfTerm(x) != 14 || impl.UsesOf(x, 0) != 3 || impl.FormatTerm(x) != text {
		t.Error("a part that occurs twice does not count twice")
	}
	results := func(f func() (impl.Term, bool)) {
		got, ok := f()
		if !ok {
			t.Error("a function fails for a term whose parts share memory")
		}
		next := scribble(&got, 1000)
		if scribbled(got, 1000) != next || impl.FormatTerm(x) != text {
			t.Error("a result shares memory")
		}
	}
	results(func() (impl.Term, bool) { return impl.ShiftTerm(x, 1, 0) })
	results(func() (impl.Term, bool) { return impl.SubstituteTerm(x, 0, x) })
	results(func() (impl.Term, bool) { return impl.SubstituteTerm(x, 1, x) })
}
