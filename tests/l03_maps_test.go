package tests

import (
	"math/rand"
	"slices"
	"strconv"
	"strings"
	"testing"

	"loop.example/g03111/impl"
)

// closedText is the text of the function of all variables.
func closedText(ctx [][]int, budgets []int, t impl.Term) string {
	text := textOf(t)
	for i, ty := range ctx {
		text = "fun:" + strconv.Itoa(budgets[i]) + ":" + typeText(ty) + "(" + text + ")"
	}
	return text
}

func TestCloseTerm(t *testing.T) {
	for _, c := range []struct {
		system, ctx, term string
		budgets           []int
		want              string
	}{
		{"bound 2", "", "1", nil, "1"},
		{"bound 2", "", "1", []int{0}, ""},
		{"bound 2", "n", "x0", []int{1}, "fun:1:n(x0)"},
		{"bound 2", "n", "x0", []int{3}, "fun:3:n(x0)"},
		{"bound 2", "n", "x0", []int{0}, ""},
		{"bound 2", "n", "x0", []int{4}, ""},
		{"bound 2", "n", "x0", []int{-1}, ""},
		{"bound 2", "n", "x0", nil, ""},
		{"bound 2", "n", "x0", []int{1, 1}, ""},
		{"bound 2", "n", "app(x0,0)", []int{1}, ""},
		{"bound 2", "n", "x1", []int{1}, ""},
		{"bound 2", "n !1.n", "pair(x0,x1)", []int{1, 2}, "fun:2:!1.n(fun:1:n(pair(x0,x1)))"},
		{"bound 2", "n !1.n", "pair(x0,x1)", []int{1, 0}, ""},
		{"bound 2", "n !1.n >0.nn", "fun:1:n(x2)", []int{0, 1, 2}, "fun:2:>0.nn(fun:1:!1.n(fun:0:n(fun:1:n(x2))))"},
		{"count 2", "n n", "x1", []int{0, 3}, "fun:3:n(fun:0:n(x1))"},
		{"count 2", "n n", "x1", []int{1, 1}, ""},
	} {
		s, ctx, x := systemOf(t, c.system), contextOf(t, c.ctx), parsed(t, c.term)
		got, ok := impl.CloseTerm(s, ctx, c.budgets, x)
		if ok != (c.want != "") || ok && textOf(got) != c.want || !ok && !isZeroTerm(got) {
			t.Errorf("%s: CloseTerm of %s in %q with %v is %s, %v", c.system, c.term, c.ctx, c.budgets, textOf(got), ok)
		}
	}
}

func TestCloseTermOfMostVariables(t *testing.T) {
	s := impl.BoundSystem(2)
	// The function of all these has a type that is far too long, but it is a written term all the same.
	ctx := slices.Repeat(contextOf(t, longType(40)), 8)
	budgets := []int{1, 2, 3, 0, 1, 2, 3, 0}
	got, ok := impl.CloseTerm(s, ctx, budgets, variableTerm(6))
	if !ok || textOf(got) != closedText(ctx, budgets, variableTerm(6)) || !impl.IsTerm(s, got, 0) {
		t.Errorf("CloseTerm of eight long types is %s, %v", textOf(got), ok)
	}
	if f := found(t, s, nil, got); f.fault != impl.FaultSame {
		t.Errorf("the function of eight long types: %v", f)
	}
}

func TestCloseTermUpToMostNodes(t *testing.T) {
	s := impl.BoundSystem(2)
	for variables := range 9 {
		ctx, budgets := slices.Repeat([][]int{{0}}, variables), make([]int, variables)
		for nodes := 390; nodes <= 400; nodes++ {
			x := towers(nodes)["add 1"]
			if !impl.Fits(s, ctx, budgets, x, found(t, s, ctx, x).ty) {
				t.Fatalf("%d nodes have no type", nodes)
			}
			got, ok := impl.CloseTerm(s, ctx, budgets, x)
			if ok != (nodes+variables <= 400) || ok && textOf(got) != closedText(ctx, budgets, x) || !ok && !isZeroTerm(got) {
				t.Errorf("CloseTerm of %d nodes with %d variables is %v", nodes, variables, ok)
			}
		}
	}
}

// slowMapType takes a written type; it returns false if a grade of it is not mapped.
func slowMapType(f, ty []int) ([]int, bool) {
	mapped := []int{}
	for _, code := range ty {
		base := 0
		switch {
		case code >= 3 && code <= 18:
			base = 3
		case code >= 19 && code <= 34:
			base = 19
		}
		if base > 0 {
			g := code - base
			if g >= len(f) || f[g] < 0 || f[g] > 15 {
				return nil, false
			}
			code = base + f[g]
		}
		mapped = append(mapped, code)
	}
	return mapped, true
}

func slowMapTerm(f []int, t impl.Term) (impl.Term, bool) {
	ty, ok := slowMapType(f, t.Type)
	mapped := impl.Term{Op: t.Op, N: t.N, Type: ty}
	if rows[t.Op].graded && t.N >= 0 {
		if t.N >= len(f) || f[t.N] < 0 || f[t.N] > 15 {
			return impl.Term{}, false
		}
		mapped.N = f[t.N]
	}
	for _, kid := range t.Kids {
		k, fine := slowMapTerm(f, kid)
		ok = ok && fine
		mapped.Kids = append(mapped.Kids, k)
	}
	return mapped, ok
}

// gradeMaps are lists of all lengths, some with elements out of range.
func gradeMaps() [][]int {
	r := rand.New(rand.NewSource(3))
	maps := [][]int{nil, {}}
	for length := 1; length <= 18; length++ {
		f := make([]int, length)
		for g := range f {
			f[g] = (g*7 + length) % 16
		}
		maps = append(maps, f)
		for _, image := range []int{-1 << 63, -2, -1, 16, 17, 1<<63 - 1} {
			bad := slices.Clone(f)
			bad[r.Intn(length)] = image
			maps = append(maps, bad)
		}
	}
	return maps
}

func TestMapTypeOfSmallTypes(t *testing.T) {
	maps := gradeMaps()
	for i, x := range slices.Concat(typesOf(1), typesOf(2), typesOf(3)) {
		for k, f := range maps {
			if i > 60 && (i+k)%10 > 0 {
				continue
			}
			want, _ := slowMapType(f, x.ty)
			if got := impl.MapType(f, x.ty); !slices.Equal(got, want) {
				t.Fatalf("MapType(%v, %s) is %v", f, x.text, got)
			}
		}
	}
}

func TestMapTypeOfChosenTypes(t *testing.T) {
	for _, c := range []struct {
		f    []int
		ty   string
		want string
	}{
		{nil, "n", "n"},
		{nil, "*n+nn", "*n+nn"},
		{nil, "!?.>?.nn", "!?.>?.nn"},
		{nil, "!0.n", ""},
		{[]int{0, 0}, "!1.n", "!0.n"},
		{[]int{0, 1}, "!2.n", ""},
		{[]int{0, 1}, ">2.nn", ""},
		{[]int{0, 1}, ">1.n!0.n", ">1.n!0.n"},
		{[]int{3, 2, 1}, ">0.!1.n>2.nn", ">3.!2.n>1.nn"},
		{[]int{5, -1}, "!0.n", "!5.n"},
		{[]int{5, -1}, "!1.n", ""},
		{[]int{5, -1}, "!0.!1.n", ""},
		{[]int{16, 15}, "!1.n", "!15.n"},
		{[]int{16, 15}, ">1.n!0.n", ""},
		{[]int{0, 1, -2}, ">1.n!?.n", ">1.n!?.n"},
		{slices.Repeat([]int{1}, 1000), "!15.n", "!1.n"},
		{[]int{4}, longType(1), "n"},
		{[]int{4, 3}, longType(40), strings.Repeat("!3.", 39) + "n"},
	} {
		ty, _ := impl.ParseType(c.ty)
		if got := impl.MapType(c.f, ty); typeText(got) != c.want {
			t.Errorf("MapType(%v, %s) is %s", c.f, c.ty, typeText(got))
		}
	}
}

func TestMapTerm(t *testing.T) {
	m := newTermMaker(16, true)
	few := newTermMaker(3, true)
	maps := gradeMaps()
	fine := 0
	for i := range 1500 {
		x, text := m.make(1+i%12, 8)
		if i%2 == 0 {
			x, text = few.make(1+i%20, 8)
		}
		for k := range 8 {
			f := maps[(i*8+k)%len(maps)]
			want, mapped := slowMapTerm(f, x)
			got, ok := impl.MapTerm(f, x)
			if ok != mapped || ok && !equalTerms(got, want) || !ok && !isZeroTerm(got) {
				t.Fatalf("MapTerm(%v, %s) is %s, %v", f, text, textOf(got), ok)
			}
			if ok {
				fine++
			}
		}
	}
	if fine < 1000 {
		t.Errorf("only %d terms could be mapped", fine)
	}
}

func TestMapTermOfChosenTerms(t *testing.T) {
	for _, c := range []struct {
		f    []int
		term string
		want string
	}{
		{[]int{0, 1, 1, 1}, "fun:2:!3.n(1)", "fun:1:!1.n(1)"},
		// Indices and numbers are no grades.
		{nil, "add(x7,2)", "add(x7,2)"},
		{[]int{5}, "if(x0,0,1)", "if(x0,0,1)"},
		{nil, "fun:?:!?.n(x0)", "fun:?:!?.n(x0)"},
		{nil, "left:>?.nn(box:?(0))", "left:>?.nn(box:?(0))"},
		{[]int{7, 8}, "split:?(x0,split:1(x1,x2))", "split:?(x0,split:8(x1,x2))"},
		{[]int{0, 2}, "split:1(x0,x1)", "split:2(x0,x1)"},
		{[]int{0, 2}, "case:1(x0,x1,x2)", "case:2(x0,x1,x2)"},
		{[]int{0, 2}, "open:1(x0,x1)", "open:2(x0,x1)"},
		{[]int{0, 2}, "box:1(x1)", "box:2(x1)"},
		{[]int{0, 2}, "fun:1:n(x1)", "fun:2:n(x1)"},
		{[]int{0, 2}, "fun:0:!1.n(x1)", "fun:0:!2.n(x1)"},
		{[]int{0, 2}, "left:!1.n(x1)", "left:!2.n(x1)"},
		{[]int{0, 2}, "right:>1.nn(x1)", "right:>2.nn(x1)"},
		{[]int{0, 2}, "app(pair(x0,box:1(0)),if(0,box:1(0),box:1(box:1(1))))", "app(pair(x0,box:2(0)),if(0,box:2(0),box:2(box:2(1))))"},
		{[]int{0, 2}, "box:2(x1)", ""},
		{[]int{0, 2}, "left:!2.n(x1)", ""},
		{[]int{0, 2}, "fun:1:!2.n(x1)", ""},
		{[]int{0, 2}, "add(0,box:2(x1))", ""},
		{[]int{0, 16}, "box:1(x1)", ""},
		{[]int{0, 15}, "box:1(x1)", "box:15(x1)"},
		{[]int{16, 15}, "box:1(x1)", "box:15(x1)"},
		{[]int{0, -1}, "box:1(x1)", ""},
		{[]int{-1, 0}, "box:1(x1)", "box:0(x1)"},
		{nil, "box:0(0)", ""},
		{nil, "if(0,1,open:15(x0,x1))", ""},
		{[]int{1, 0}, "box:1(app(0,0))", "box:0(app(0,0))"},
	} {
		got, ok := impl.MapTerm(c.f, parsed(t, c.term))
		if ok != (c.want != "") || ok && textOf(got) != c.want || !ok && !isZeroTerm(got) {
			t.Errorf("MapTerm(%v, %s) is %s, %v", c.f, c.term, textOf(got), ok)
		}
	}
	for name, x := range towers(400) {
		if got, ok := impl.MapTerm([]int{0, 1}, x); !ok || !equalTerms(got, x) {
			t.Errorf("%s: MapTerm fails for a term of 400 nodes", name)
		}
	}
}

func TestMapsOfInvalidArguments(t *testing.T) {
	f := []int{0, 1, 2, 3, 4, 5, 6, 7, 8, 9, 10, 11, 12, 13, 14, 15}
	for name, ty := range badTypes() {
		if got := impl.MapType(f, ty); len(got) > 0 {
			t.Errorf("%s: MapType is %v", name, got)
		}
	}
	for name, x := range badTerms() {
		for _, l := range [][]int{f, nil, {-1}} {
			if got, ok := impl.MapTerm(l, x); ok || !isZeroTerm(got) {
				t.Errorf("%s: MapTerm(%v) is %v, %v", name, l, got, ok)
			}
		}
	}
}

// TestTypingKeepsItsArguments hands over lists with spare room, and writes over all that is returned.
func TestTypingKeepsItsArguments(t *testing.T) {
	s := impl.BoundSystem(2)
	m := newTypedMaker(s)
	typed := 0
	for i := range 300 {
		ctx := m.context(3)
		x := m.make(ctx, m.typ(6), i%20)
		f := slowFind(s, ctx, x)
		if i%20 == 0 {
			x, ctx = variableTerm(0), [][]int{{1, 0, 0}, {0}}
			f = slowFind(s, ctx, x)
		}
		if f.fault == impl.FaultNone {
			typed++
		}
		budgets := slices.Repeat([]int{3}, len(ctx))
		wide, wideBudgets := wideContext(ctx), wideList(budgets)
		unchanged(t, "typing", s, func(s impl.System) {
			keepsTerms(t, "typing", func(l []impl.Term) []impl.Term {
				ty, needs, _ := impl.TypeOf(s, wide, l[0])
				_, path := impl.FaultOf(s, wide, l[0])
				lists := append(impl.TypesWithin(s, wide, l[0]), ty, needs, path)
				if !allDistinct(lists) {
					t.Error("results share memory")
				}
				impl.Fits(s, wide, wideBudgets, l[0], wideList(f.ty))
				got, _ := impl.CloseTerm(s, wide, wideBudgets, l[0])
				return []impl.Term{got}
			}, x)
		})
		if !keptContext(wide, ctx) || !keptList(wideBudgets, budgets) {
			t.Fatalf("an argument is changed, or shares memory with a result")
		}
		if again := found(t, s, wide, x); again.String() != f.String() {
			t.Fatalf("a state is kept")
		}
	}
	if typed < 100 {
		t.Errorf("only %d terms have a type", typed)
	}
}

func TestMapsKeepTheirArguments(t *testing.T) {
	m := newTermMaker(4, true)
	f := []int{1, 2, 3, 0}
	wide := wideList(f)
	for i := range 200 {
		x, _ := m.make(1+i%20, 4)
		keepsTerms(t, "MapTerm", func(l []impl.Term) []impl.Term {
			got, _ := impl.MapTerm(wide, l[0])
			return []impl.Term{got}
		}, x)
	}
	for _, x := range smallTypes() {
		ty := wideList(x.ty)
		if !allDistinct([][]int{impl.MapType(wide, ty), impl.MapType(wide, ty)}) || !keptList(ty, x.ty) {
			t.Fatalf("MapType(%v, %s) shares memory", f, x.text)
		}
	}
	if !keptList(wide, f) {
		t.Error("the map is changed")
	}
}

// TestTypingOfTermsThatShareMemory hands over a term in which a part stands twice in one memory.
func TestTypingOfTermsThatShareMemory(t *testing.T) {
	s := impl.BoundSystem(2)
	one := leastTerm(impl.TmFun, variableTerm(0))
	x := leastTerm(impl.TmPair, one, leastTerm(impl.TmPair, one, one))
	const text = "pair(fun:1:n(x0),pair(fun:1:n(x0),fun:1:n(x0)))"
	l := impl.TypesWithin(s, nil, x)
	if strings.Join(typeTexts(l), " ") != "*>1.nn*>1.nn>1.nn >1.nn n *>1.nn>1.nn >1.nn n >1.nn n" || !allDistinct(l) {
		t.Errorf("TypesWithin is %v", l)
	}
	closed, _ := impl.CloseTerm(s, [][]int{{0}}, []int{2}, x)
	mapped, _ := impl.MapTerm([]int{1, 0}, x)
	if textOf(closed) != "fun:2:n("+text+")" || textOf(mapped) != strings.ReplaceAll(text, "fun:1", "fun:0") {
		t.Errorf("CloseTerm is %s, MapTerm is %s", textOf(closed), textOf(mapped))
	}
	for _, got := range []impl.Term{closed, mapped} {
		next := scribble(&got, 1000)
		if scribbled(got, 1000) != next || textOf(x) != text {
			t.Error("a result shares memory")
		}
	}
}
