package tests

import (
	"math/rand"
	"reflect"
	"slices"
	"strconv"
	"strings"
	"testing"

	"loop.example/g03111/impl"
)

// TestTranslateMadeTerms holds the results against those of a second way, and looks at their types and needs.
func TestTranslateMadeTerms(t *testing.T) {
	boxed, plain, functions, opens, untyped := 0, 0, 0, 0, 0
	for seed, name := range translationSystems() {
		s := systemOf(t, name)
		m := newTypedMaker(s)
		m.r = rand.New(rand.NewSource(int64(seed)))
		for i := range 240 {
			ctx := m.context(8)
			x := m.make(ctx, m.typ(4), 6+i%60)
			if sizeOf(x) > 400 || slowFind(s, ctx, x).fault != impl.FaultNone {
				if boxedTerm(t, s, ctx, x) != "fails" || plainTerm(t, s, ctx, x) != "fails" {
					t.Fatalf("%s: %s has no type, but is translated", name, textOf(x))
				}
				untyped++
				continue
			}
			want := slowBoxer(s).text(ctx, x)
			if got := boxedTerm(t, s, ctx, x); got != want {
				t.Fatalf("%s: BoxTerm of %s is %s, not %s", name, textOf(x), got, want)
			}
			if want != "fails" {
				boxed++
				checkBoxedTyping(t, s, ctx, x, want)
			}
			if strings.Contains(textOf(x), "fun") && want != "fails" {
				functions++
			}
			want = slowForgetter(s).text(ctx, x)
			if got := plainTerm(t, s, ctx, x); got != want {
				t.Fatalf("%s: ForgetTerm of %s is %s, not %s", name, textOf(x), got, want)
			}
			if want != "fails" {
				plain++
				checkPlainTyping(t, s, ctx, x, want)
			}
			if strings.Contains(textOf(x), "open") && want != "fails" {
				opens++
			}
		}
	}
	if boxed < 2500 || plain < 2500 || functions < 1500 || opens < 1000 || untyped < 100 {
		t.Errorf("only %d boxed, %d plain, %d with functions, %d with opens, %d without a type", boxed, plain, functions, opens, untyped)
	}
}

// TestForgetWhatIsBoxed has two ways from a term to a plain one, which differ by redexes alone.
func TestForgetWhatIsBoxed(t *testing.T) {
	same := 0
	for _, name := range translationSystems() {
		m := newTypedMaker(systemOf(t, name))
		for i := range 60 {
			ctx := m.context(4)
			x := m.make(ctx, m.typ(4), 6+i%40)
			boxed, ok := impl.BoxTerm(m.s, ctx, x)
			if !ok {
				continue
			}
			long, ok := impl.ForgetTerm(m.s, translatedContext(t, impl.BoxType, ctx), boxed)
			short, okShort := impl.ForgetTerm(m.s, ctx, x)
			if !ok || !okShort {
				continue
			}
			a, steps, ok := impl.NormalForm(long, impl.MaxContractions)
			b, stepsOfShort, okShort := impl.NormalForm(short, impl.MaxContractions)
			if !ok || !okShort {
				continue
			}
			same++
			if textOf(a) != textOf(b) || steps < stepsOfShort {
				t.Fatalf("%s: %s leads to %s by boxes, and to %s without", name, textOf(x), textOf(a), textOf(b))
			}
		}
	}
	if same < 700 {
		t.Errorf("only %d terms", same)
	}
}

// told returns what a run or an evaluation tells, without the rest of the text.
func told(text string) string {
	value, _, _ := strings.Cut(text, " ")
	return value
}

// TestTranslatedProgramsEndAlike runs programs before and after.
func TestTranslatedProgramsEndAlike(t *testing.T) {
	boxed, plain, changed := 0, 0, 0
	for _, p := range madePrograms(t, 70) {
		before := told(run(t, p.s, p.t))
		if before == "fails" {
			continue
		}
		if x, ok := impl.BoxTerm(p.s, nil, p.t); ok {
			after := run(t, p.s, x)
			if after != slowRun(p.s, x) {
				t.Fatalf("RunProgram of %s is %s", textOf(x), after)
			}
			if after != "fails" {
				boxed++
			}
			// All types of data stay what they are, and all boxes that are told.
			if after != "fails" && told(after) != before {
				t.Fatalf("%s ends with %s, and in boxes, as %s, with %s", textOf(p.t), before, textOf(x), after)
			}
			if textOf(x) != textOf(p.t) {
				changed++
			}
		}
		if x, ok := impl.ForgetTerm(p.s, nil, p.t); ok {
			after, want := run(t, untyped(), x), slowForgetter(p.s).text(nil, parsed(t, before))
			if after != "fails" {
				plain++
			}
			if after != "fails" && told(after) != want {
				t.Fatalf("%s ends with %s, and plain, as %s, with %s", textOf(p.t), before, textOf(x), after)
			}
		}
	}
	if boxed < 1300 || plain < 1300 || changed < 700 {
		t.Errorf("only %d programs ran in boxes, %d plain, and %d were changed", boxed, plain, changed)
	}
}

// TestTranslatedTermsTellTheSame gives the same values to the variables of a term before and after.
func TestTranslatedTermsTellTheSame(t *testing.T) {
	boxed, plain := 0, 0
	for _, name := range translationSystems() {
		m := newTypedMaker(systemOf(t, name))
		for i := range 40 {
			ctx := m.dataContext(4)
			x, _ := m.makeData(ctx, 8+i%40)
			var values, bare []impl.Term
			for _, of := range ctx {
				v := madeValue(m.r, of)
				values = append(values, v)
				bare = append(bare, parsed(t, slowForgetter(m.s).text(nil, v)))
			}
			before := told(evaluated(t, m.s, ctx, x, values))
			if before == "fails" {
				continue
			}
			if y, ok := impl.BoxTerm(m.s, ctx, x); ok {
				if after := told(evaluated(t, m.s, ctx, y, values)); after != "fails" {
					boxed++
					if after != before {
						t.Fatalf("%s: %s tells %s, and in boxes %s", name, textOf(x), before, after)
					}
				}
			}
			if y, ok := impl.ForgetTerm(m.s, ctx, x); ok {
				want := slowForgetter(m.s).text(nil, parsed(t, before))
				if after := told(evaluated(t, untyped(), translatedContext(t, impl.ForgetType, ctx), y, bare)); after != "fails" {
					plain++
					if after != want {
						t.Fatalf("%s: %s tells %s, and plain %s", name, textOf(x), before, after)
					}
				}
			}
		}
	}
	if boxed < 700 || plain < 700 {
		t.Errorf("only %d terms told in boxes, and %d plain", boxed, plain)
	}
}

func checkNoTranslation(t *testing.T, reason string, s impl.System, ctx [][]int, x impl.Term) {
	t.Helper()
	if got := boxedTerm(t, s, ctx, x); got != "fails" {
		t.Errorf("%s: BoxTerm is %s", reason, got)
	}
	if got := plainTerm(t, s, ctx, x); got != "fails" {
		t.Errorf("%s: ForgetTerm is %s", reason, got)
	}
}

func TestTranslateInvalidArguments(t *testing.T) {
	inputs(func(name string, s impl.System, ctx [][]int, x impl.Term) { checkNoTranslation(t, name, s, ctx, x) })
	for law, s := range lawBreakers() {
		checkNoTranslation(t, law, s, nil, numberTerm(1))
		checkNoTranslation(t, law, s, [][]int{{0}}, variableTerm(0))
	}
	s := impl.BoundSystem(2)
	for reason, bad := range badTerms() {
		checkNoTranslation(t, reason, s, [][]int{{0}}, leastTerm(impl.TmFun, bad))
		checkNoTranslation(t, reason, s, [][]int{{0}}, leastTerm(impl.TmBox, bad))
		checkNoTranslation(t, reason, s, [][]int{{4, 0, 0}}, leastTerm(impl.TmApp, variableTerm(0), bad))
		checkNoTranslation(t, reason, s, [][]int{{20, 0}}, leastTerm(impl.TmOpen, variableTerm(0), bad))
	}
	for _, nodes := range []int{401, 402, 500} {
		for name, x := range towers(nodes) {
			checkNoTranslation(t, name+" "+strconv.Itoa(nodes), s, nil, x)
		}
		// Without its boxes it would be short enough.
		checkNoTranslation(t, "boxes", s, nil, boxed(nodes-1, numberTerm(0)))
	}
	checkNoTranslation(t, "401 nodes", s, nil, leastTerm(impl.TmAdd, numberTerm(0), parsed(t, ofSize(399))))
}

func TestTranslateTermsWithoutTypes(t *testing.T) {
	s := impl.BoundSystem(2)
	for _, text := range []string{
		"x1", "x7", "add(1,box:0(1))", "add(box:0(1),1)", "if(box:0(1),1,1)", "if(1,1,box:0(1))", "split:1(1,x0)",
		"split:0(pair(1,1),1)", "split:1(pair(1,1),add(x0,x0))", "case:1(1,x0,x0)", "case:0(left:n(1),1,1)",
		"case:1(left:n(1),x0,box:0(x0))", "app(1,1)", "app(fun:0:n(1),box:0(1))", "app(fun:1:!2.n(1),1)",
		"app(fun:1:!2.n(1),box:1(1))", "app(box:1(1),1)", "fun:0:n(x0)", "fun:1:n(add(x0,x0))", "open:1(1,x0)",
		"open:0(box:1(1),1)", "open:1(box:1(1),add(x0,x0))", "open:1(fun:1:n(x0),1)", "fun:4:n(1)", "box:4(1)", "box:?(1)",
		"fun:?:n(1)", "fun:0:!4.n(1)", "fun:0:!?.n(1)", "fun:1:>?.nn(x0)", "left:>4.nn(1)", "left:>?.nn(1)", "right:!?.n(1)",
		"open:?(box:1(1),1)", "open:4(box:1(1),1)", "split:?(pair(1,1),1)", "case:?(left:n(1),1,1)",
		"fun:1:" + longType(39) + "(x0)", "left:" + longType(39) + "(1)", "box:0(left:" + longType(38) + "(1))",
		"box:0(" + strings.Repeat("box:1(", 39) + "1" + strings.Repeat(")", 40),
	} {
		for _, around := range []string{"T", "box:0(T)", "app(fun:0:n(1),T)", "pair(x0,T)", "open:1(box:0(T),1)", "if(0,1,T)"} {
			x := parsed(t, strings.ReplaceAll(around, "T", text))
			ctx := [][]int{{0}}
			if slowIsTerm(x, s.Size, false, 1) && slowFind(s, ctx, x).fault == impl.FaultNone {
				t.Fatalf("%s has a type", textOf(x))
			}
			checkNoTranslation(t, textOf(x), s, ctx, x)
		}
	}
	// A term that has a type in some contexts and systems, and none in others.
	x := parsed(t, "app(x0,x1)")
	for _, c := range []struct {
		system, ctx string
		is          bool
	}{
		{"bound 2", ">2.nn n", true},
		{"bound 2", ">2.!1.nn !1.n", true},
		{"bound 2", ">2.nn !1.n", false},
		{"bound 2", "n n", false},
		{"bound 2", "!2.n n", false},
		{"bound 2", ">2.nn", false},
		{"bound 2", "", false},
		{"bound 2", ">3.nn n", true},
		{"bound 2", ">4.nn n", false},
		{"bound 3", ">4.nn n", true},
		{"level 2", ">3.nn n", false},
		{"level 2", ">2.nn n", true},
		{"bound 2", ">?.nn n", false},
		{"bound 2", ">2.nn n n n n n n n", true},
		{"bound 2", ">2.nn n n n n n n n n", false},
		{"bound 2", ">2.nn n n n n n n !?.n", false},
	} {
		s, ctx := systemOf(t, c.system), contextOf(t, c.ctx)
		if got := boxedTerm(t, s, ctx, x); strings.HasPrefix(got, "app(x0,box:") != c.is {
			t.Errorf("%s: BoxTerm of app(x0,x1) in %q is %s", c.system, c.ctx, got)
		}
		if got := plainTerm(t, s, ctx, x); (got == "app(x0,x1)") != c.is {
			t.Errorf("%s: ForgetTerm of app(x0,x1) in %q is %s", c.system, c.ctx, got)
		}
	}
}

// TestTranslateInContexts has contexts of any number of variables, up to more than there may be.
func TestTranslateInContexts(t *testing.T) {
	s := impl.BoundSystem(2)
	for n := range 11 {
		ctx := slices.Repeat([][]int{{21, 0}}, n)
		for i := range n + 2 {
			v := variableTerm(i)
			x := leastTerm(impl.TmPair, v, leastTerm(impl.TmFun, leastTerm(impl.TmOpen, variableTerm(i+1), variableTerm(i+2))))
			at := func(k int) string { return "x" + strconv.Itoa(i+k) }
			inBoxes := "pair(" + at(0) + ",fun:1:!1.n(open:1(x0,open:1(" + at(2) + "," + at(3) + "))))"
			plain := "pair(" + at(0) + ",fun:1:n(app(fun:1:n(" + at(2) + ")," + at(1) + ")))"
			if n > 8 || i >= n {
				inBoxes, plain = "fails", "fails"
			}
			if got := boxedTerm(t, s, ctx, x); got != inBoxes {
				t.Errorf("BoxTerm of %s with %d variables is %s", textOf(x), n, got)
			}
			if got := plainTerm(t, s, ctx, x); got != plain {
				t.Errorf("ForgetTerm of %s with %d variables is %s", textOf(x), n, got)
			}
		}
	}
}

func TestTranslationsChangeNoArgument(t *testing.T) {
	for _, name := range []string{"bound 2", "level 2*bound 1", "count 2"} {
		m := newTypedMaker(systemOf(t, name))
		for i := range 150 {
			ctx := m.context(5)
			x := m.make(ctx, m.typ(4), 6+i%40)
			if sizeOf(x) > 400 {
				continue
			}
			wide, wideTerm := wideContext(ctx), copyOfTerm(x)
			before := dump(reflect.ValueOf(wide)) + dump(reflect.ValueOf(wideTerm))
			inBoxes, _ := impl.BoxTerm(m.s, wide, wideTerm)
			plain, _ := impl.ForgetTerm(m.s, wide, wideTerm)
			if dump(reflect.ValueOf(wide))+dump(reflect.ValueOf(wideTerm)) != before {
				t.Fatalf("%s: an argument is changed for %s", name, textOf(x))
			}
			if !ownsMemory([]impl.Term{inBoxes, plain}, wide, wideTerm, m.s) {
				t.Fatalf("%s: what is returned for %s shares memory", name, textOf(x))
			}
			keepsTerms(t, "BoxTerm, ForgetTerm", func(l []impl.Term) []impl.Term {
				y, _ := impl.BoxTerm(m.s, wide, l[0])
				z, _ := impl.ForgetTerm(m.s, wide, l[0])
				return []impl.Term{y, z}
			}, x)
			if !keptContext(wide, ctx) {
				t.Fatalf("%s: the context is changed for %s", name, textOf(x))
			}
		}
		unchanged(t, name, systemOf(t, name), func(s impl.System) {
			for _, text := range []string{"app(fun:1:n(x0),x0)", "open:1(box:1(x0),x0)", "app(1,1)"} {
				impl.BoxTerm(s, [][]int{{0}}, parsed(t, text))
				impl.ForgetTerm(s, [][]int{{0}}, parsed(t, text))
			}
		})
	}
}

// TestTranslationsShareNoMemory has a term whose parts share their memory, with each other and with the context.
func TestTranslationsShareNoMemory(t *testing.T) {
	s := impl.BoundSystem(2)
	ty := []int{20, 5, 0, 0}
	open := leastTerm(impl.TmOpen, variableTerm(0), leastTerm(impl.TmApp, variableTerm(0), numberTerm(1)))
	left := impl.Term{Op: impl.TmLeft, Type: ty, Kids: []impl.Term{open}}
	function := impl.Term{Op: impl.TmFun, N: 1, Type: ty, Kids: []impl.Term{left}}
	x := leastTerm(impl.TmPair, leastTerm(impl.TmPair, left, left), leastTerm(impl.TmPair, function, function))
	ctx := [][]int{ty, ty}
	a := "left:!1.>1.!2.nn(open:1(x0,app(x0,box:2(1))))"
	b := "fun:1:!1.!1.>1.!2.nn(open:1(x0,left:!1.>1.!2.nn(open:1(x0,app(x0,box:2(1))))))"
	got, ok := impl.BoxTerm(s, ctx, x)
	if !ok || textOf(got) != "pair(pair("+a+","+a+"),pair("+b+","+b+"))" {
		t.Errorf("BoxTerm is %s, %v", textOf(got), ok)
	}
	if !ownsMemory(got, ctx, x) {
		t.Errorf("BoxTerm returns memory that is shared")
	}
	scribbleAndLook(t, "BoxTerm", got)
	a = "left:>1.nn(app(fun:1:>1.nn(app(x0,1)),x0))"
	b = "fun:1:>1.nn(" + a + ")"
	got, ok = impl.ForgetTerm(s, ctx, x)
	if !ok || textOf(got) != "pair(pair("+a+","+a+"),pair("+b+","+b+"))" {
		t.Errorf("ForgetTerm is %s, %v", textOf(got), ok)
	}
	if !ownsMemory(got, ctx, x) {
		t.Errorf("ForgetTerm returns memory that is shared")
	}
	scribbleAndLook(t, "ForgetTerm", got)
	if !slices.Equal(ty, []int{20, 5, 0, 0}) || textOf(x.Kids[0].Kids[1]) != "left:!1.>2.nn(open:1(x0,app(x0,1)))" {
		t.Errorf("an argument is changed")
	}
}
