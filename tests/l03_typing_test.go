package tests

import (
	"slices"
	"strings"
	"testing"

	"loop.example/g03111/impl"
)

// typingCase says what is found of a term in a context of a system.
type typingCase struct{ system, ctx, term, want string }

func checkTyping(t *testing.T, cases []typingCase) {
	t.Helper()
	for _, c := range cases {
		s, ctx, x := systemOf(t, c.system), contextOf(t, c.ctx), parsed(t, c.term)
		if got := found(t, s, ctx, x).String(); got != c.want {
			t.Errorf("%s: %s in %q: %s, not %s", c.system, c.term, c.ctx, got, c.want)
		}
	}
}

func TestTypesAndNeedsOfEachOp(t *testing.T) {
	checkTyping(t, []typingCase{
		{"bound 2", "", "2", "n"},
		{"bound 2", "n n", "0", "n 0 0"},
		{"bound 2", "n", "x0", "n 1"},
		{"bound 2", "n !1.n *nn", "x1", "!1.n 0 1 0"},
		{"level 2", ">2.n!0.n +nn", "x0", ">2.n!0.n 1 0"},
		{"bound 2", "n n", "add(x0,x1)", "n 1 1"},
		{"bound 2", "n n", "add(x0,x0)", "n 2 0"},
		{"bound 2", "n", "add(x0,add(x0,x0))", "n 3"},
		{"level 2", "n", "add(x0,x0)", "n 1"},
		{"count 2", "n n n", "if(x0,x1,x2)", "n 1 3 3"},
		{"bound 2", "n n n", "if(x0,x1,x2)", "n 1 1 1"},
		{"bound 2", "n n n", "if(x0,x1,x1)", "n 1 1 0"},
		{"count 2", "n n", "if(x0,x0,x0)", "n 2 0"},
		{"count 2", "n", "if(0,0,x0)", "n 3"},
		{"count 2", "n", "if(0,x0,0)", "n 3"},
		{"count 2", "n n", "if(x1,add(x0,x0),x0)", "n 3 1"},
		{"bound 2", "n n", "if(x1,add(x0,x0),x0)", "n 2 1"},
		{"bound 2", "n !1.n", "if(x0,x1,x1)", "!1.n 1 1"},
		{"bound 2", "n !1.n", "pair(x0,x1)", "*n!1.n 1 1"},
		{"bound 2", "n", "pair(x0,pair(x0,0))", "*n*nn 2"},
		{"bound 2", "*n!1.n", "split:1(x0,x0)", "!1.n 1"},
		{"bound 2", "*n!1.n", "split:1(x0,x1)", "n 1"},
		{"bound 2", "*n!1.n !2.n", "split:2(x0,pair(pair(x0,x1),x3))", "**!1.nn!2.n 2 1"},
		{"bound 2", "*nn n", "split:2(x0,add(add(x0,x1),add(add(x0,x1),x3)))", "n 2 1"},
		{"count 2", "*nn", "split:3(x0,x0)", "n 3"},
		{"count 2", "*nn", "split:1(x0,add(x0,x1))", "n 1"},
		{"bound 2", "n", "left:!1.n(x0)", "+n!1.n 1"},
		{"bound 2", "n", "right:!1.n(x0)", "+!1.nn 1"},
		{"bound 2", "", "left:+nn(0)", "+n+nn"},
		{"bound 2", "", "right:+nn(0)", "++nnn"},
		{"bound 2", "+n!1.n", "case:1(x0,x0,1)", "n 1"},
		{"bound 2", "+n!1.n", "case:1(x0,x0,open:1(x0,x0))", "n 1"},
		{"bound 2", "+!1.nn", "case:2(x0,open:1(x0,x0),add(x0,x0))", "n 2"},
		{"count 2", "+nn n n", "case:3(x0,x2,x3)", "n 3 3 3"},
		{"bound 2", "+nn n n", "case:2(x0,x2,x3)", "n 2 1 1"},
		{"bound 2", "+nn n n", "case:1(x0,x2,x2)", "n 1 1 0"},
		{"count 2", "n", "case:1(left:n(x0),add(x0,x1),add(x0,x1))", "n 2"},
		{"bound 2", "", "fun:1:n(x0)", ">1.nn"},
		{"bound 2", "", "fun:2:!1.n(x0)", ">2.!1.n!1.n"},
		{"bound 2", "", "fun:0:n(0)", ">0.nn"},
		{"bound 2", "", "fun:2:n(add(x0,x0))", ">2.nn"},
		{"bound 2", "n", "fun:1:!1.n(add(x1,x1))", ">1.!1.nn 2"},
		{"count 2", "n", "fun:1:n(add(x0,x1))", ">1.nn 1"},
		{"bound 2", ">2.nn n", "app(x0,x1)", "n 1 2"},
		{"bound 2", ">0.n!1.n n", "app(x0,x1)", "!1.n 1 0"},
		{"bound 2", ">2.>1.nnn n", "app(x0,fun:1:n(add(x0,x2)))", "n 1 2"},
		{"bound 2", "n", "app(fun:2:n(x0),add(x0,x0))", "n 3"},
		{"level 2", "n", "app(fun:2:!0.n(0),box:0(x0))", "n 0"},
		{"level 2", "n", "app(fun:1:!2.n(1),box:2(x0))", "n 2"},
		{"bound 2", "n", "box:2(x0)", "!2.n 2"},
		{"bound 2", "n", "box:0(x0)", "!0.n 0"},
		{"level 2", "n", "box:2(x0)", "!2.n 2"},
		{"bound 2", "n n", "box:2(add(x0,add(x1,x0)))", "!2.n 3 2"},
		{"bound 2", "!2.n", "open:1(x0,x0)", "n 1"},
		{"bound 2", "!2.n", "open:1(x0,add(x0,x0))", "n 1"},
		{"bound 2", "!2.n !1.n", "open:2(x0,add(x0,add(x0,add(x0,open:1(x2,x0)))))", "n 2 1"},
		{"bound 2", "!0.!2.n n", "open:1(x0,x2)", "n 1 1"},
		{"count 2", "n", "open:1(box:2(x0),add(x0,x0))", "n 2"},
		{"count 2", "n", "open:3(box:1(x0),pair(x0,x1))", "*nn 3"},
	})
}

// TestNeedsOfAnotherOrder looks at rows of the system in which 2 * 3 is 3, and 3 * 2 is 2.
func TestNeedsOfAnotherOrder(t *testing.T) {
	checkTyping(t, []typingCase{
		{"askew", "n", "box:3(box:2(x0))", "!3.!2.n 2"},
		{"askew", "n", "box:2(box:3(x0))", "!2.!3.n 3"},
		{"askew", ">3.!2.nn n", "app(x0,box:2(x1))", "n 1 2"},
		{"askew", ">2.!3.nn n", "app(x0,box:3(x1))", "n 1 3"},
		{"askew", "n", "split:3(pair(box:2(x0),0),pair(x0,x1))", "*n!2.n 2"},
		{"askew", "n", "case:3(left:n(box:2(x0)),x0,box:2(x0))", "!2.n 2"},
		{"askew", "n", "open:3(box:1(box:2(x0)),x0)", "!2.n 2"},
		{"askew", "!2.n", "open:3(x0,x0)", "fault 9"},
		{"askew", "!2.n", "open:3(x0,open:3(box:2(x0),box:2(x0)))", "!2.n 3"},
		{"askew", "n", "fun:2:n(box:3(box:2(x0)))", ">2.n!3.!2.n 0"},
		{"askew", "n", "fun:3:n(box:3(box:2(x0)))", ">3.n!3.!2.n 0"},
		{"askew", "n", "fun:2:n(box:2(box:3(x0)))", "fault 9"},
	})
}

func TestFaultsOfEachOp(t *testing.T) {
	checkTyping(t, []typingCase{
		{"bound 2", "n !1.n", "add(x1,x0)", "fault 2"},
		{"bound 2", "n !1.n", "add(x0,x1)", "fault 2"},
		{"bound 2", "*nn", "if(x0,0,1)", "fault 2"},
		{"bound 2", "", "if(0,0,box:1(0))", "fault 3"},
		{"bound 2", "", "if(0,box:1(0),0)", "fault 3"},
		{"bound 2", "", "if(0,box:1(0),box:2(0))", "fault 3"},
		{"bound 2", "", "if(0,fun:1:n(0),fun:2:n(0))", "fault 3"},
		{"bound 2", "+nn", "split:1(x0,0)", "fault 4"},
		{"bound 2", "*nn", "split:0(x0,0)", "fault 8"},
		{"count 2", "*nn", "split:2(x0,add(x0,x1))", "fault 8"},
		{"level 2", "*nn", "split:2(x0,0)", "fault 8"},
		{"bound 2", "*nn", "split:1(x0,add(x0,x0))", "fault 9"},
		{"bound 2", "*nn", "split:1(x0,add(x1,x1))", "fault 9"},
		{"count 2", "*nn", "split:1(x0,x0)", "fault 9"},
		{"count 2", "*nn", "split:1(x0,x1)", "fault 9"},
		{"bound 2", "*nn", "case:1(x0,0,0)", "fault 5"},
		{"bound 2", "+nn", "case:0(x0,0,0)", "fault 8"},
		{"level 2", "+nn", "case:2(x0,0,0)", "fault 8"},
		{"bound 2", "+nn", "case:1(x0,0,box:1(0))", "fault 3"},
		{"bound 2", "+n!1.n", "case:1(x0,x0,x0)", "fault 3"},
		{"bound 2", "+nn", "case:1(x0,add(x0,x0),0)", "fault 9"},
		{"bound 2", "+nn", "case:1(x0,0,add(x0,x0))", "fault 9"},
		{"count 2", "+nn", "case:1(x0,x0,0)", "fault 9"},
		{"bound 2", "", "fun:1:n(add(x0,x0))", "fault 9"},
		{"count 2", "", "fun:1:n(0)", "fault 9"},
		{"level 2", "", "fun:2:n(x0)", "fault 9"},
		{"bound 2", "!1.n n", "app(x0,x1)", "fault 6"},
		{"bound 2", "n n", "app(x0,x1)", "fault 6"},
		{"bound 2", ">1.n!1.n !1.n", "app(x0,x1)", "fault 3"},
		{"bound 2", ">1.!1.nn", "app(x0,box:2(0))", "fault 3"},
		{"bound 2", "*nn", "open:1(x0,0)", "fault 7"},
		{"bound 2", ">1.nn", "open:1(x0,0)", "fault 7"},
		{"bound 2", "!1.n", "open:0(x0,0)", "fault 8"},
		{"count 2", "!1.n", "open:2(x0,add(x0,x0))", "fault 8"},
		{"bound 2", "!1.n", "open:1(x0,add(x0,x0))", "fault 9"},
		{"bound 2", "!2.n", "open:1(x0,add(x0,add(x0,x0)))", "fault 9"},
		{"bound 2", "!0.n", "open:3(x0,x0)", "fault 9"},
	})
}

func TestOrderOfFaults(t *testing.T) {
	checkTyping(t, []typingCase{
		// app(0,0) is a kid with a fault of its own, FaultArrow, at its root.
		{"bound 2", "", "add(box:1(0),app(0,0))", "fault 2"},
		{"bound 2", "", "add(box:1(0),box:1(0))", "fault 2"},
		{"bound 2", "", "add(0,app(0,0))", "fault 6 1"},
		{"bound 2", "", "add(app(0,0),box:1(0))", "fault 6 0"},
		{"bound 2", "", "if(box:1(0),app(0,0),0)", "fault 2"},
		{"bound 2", "", "if(box:1(0),0,box:1(0))", "fault 2"},
		{"bound 2", "", "if(0,app(0,0),box:1(app(0,0)))", "fault 6 1"},
		{"bound 2", "", "if(0,box:1(0),app(0,0))", "fault 6 2"},
		{"bound 2", "", "pair(app(0,0),add(box:1(0),0))", "fault 6 0"},
		{"bound 2", "", "pair(0,app(0,0))", "fault 6 1"},
		{"bound 2", "", "split:0(0,0)", "fault 4"},
		{"bound 2", "", "split:0(0,app(0,0))", "fault 4"},
		{"bound 2", "", "split:1(0,app(0,0))", "fault 4"},
		{"bound 2", "*nn", "split:0(x0,app(0,0))", "fault 8"},
		{"bound 2", "*nn", "split:0(x0,add(x0,x0))", "fault 8"},
		{"bound 2", "*nn", "split:1(x0,app(add(x0,x0),0))", "fault 6 1"},
		{"bound 2", "", "split:0(app(0,0),0)", "fault 6 0"},
		{"bound 2", "", "case:0(0,0,0)", "fault 5"},
		{"bound 2", "", "case:1(0,app(0,0),0)", "fault 5"},
		{"bound 2", "+nn", "case:0(x0,app(0,0),0)", "fault 8"},
		{"bound 2", "+nn", "case:0(x0,0,app(0,0))", "fault 8"},
		{"bound 2", "+nn", "case:0(x0,0,box:1(0))", "fault 8"},
		{"bound 2", "+nn", "case:0(x0,add(x0,x0),0)", "fault 8"},
		{"bound 2", "+nn", "case:1(x0,app(0,0),app(0,0))", "fault 6 1"},
		{"bound 2", "+nn", "case:1(x0,add(x0,x0),app(0,0))", "fault 6 2"},
		{"bound 2", "+nn", "case:1(x0,box:1(0),app(0,0))", "fault 6 2"},
		{"bound 2", "+nn", "case:1(x0,add(x0,x0),box:1(0))", "fault 3"},
		{"bound 2", "+nn", "case:1(x0,box:1(0),add(x0,x0))", "fault 3"},
		{"bound 2", "", "case:0(app(0,0),0,0)", "fault 6 0"},
		{"bound 2", longType(20), "fun:0:" + longType(20) + "(x0)", "fault 9"},
		{"bound 2", longType(20), "fun:0:" + longType(20) + "(x1)", "fault 3"},
		{"bound 2", "", "fun:0:n(pair(x0,app(0,0)))", "fault 6 0 1"},
		{"bound 2", "", "app(0,add(box:1(0),0))", "fault 6"},
		{"bound 2", ">1.nn", "app(x0,add(box:1(0),0))", "fault 2 1"},
		{"bound 2", "", "app(add(box:1(0),0),0)", "fault 2 0"},
		{"bound 2", "", "open:0(0,0)", "fault 7"},
		{"bound 2", "", "open:1(0,app(0,0))", "fault 7"},
		{"bound 2", "!1.n", "open:0(x0,app(0,0))", "fault 8"},
		{"bound 2", "!1.n", "open:0(x0,add(x0,x0))", "fault 8"},
		{"bound 2", "!1.n", "open:1(x0,app(add(x0,x0),0))", "fault 6 1"},
		{"bound 2", "", "open:0(app(0,0),0)", "fault 6 0"},
		{"bound 2", longType(20), "pair(x0,pair(x0,app(0,0)))", "fault 6 1 1"},
	})
}

func TestPathsOfFaults(t *testing.T) {
	checkTyping(t, []typingCase{
		{"bound 2", "", "add(1,app(fun:1:n(add(x0,x0)),2))", "fault 9 1 0"},
		{"bound 2", "", "if(add(0,add(0,pair(0,0))),0,0)", "fault 2 0 1"},
		{"bound 2", "", "if(0,0,if(0,add(0,box:1(0)),0))", "fault 2 2 1"},
		{"bound 2", "", "split:1(pair(0,split:0(pair(0,0),0)),0)", "fault 8 0 1"},
		{"bound 2", "", "split:1(pair(0,0),left:n(right:n(open:1(x0,0))))", "fault 7 1 0 0"},
		{"bound 2", "+nn", "case:1(x0,0,case:1(x1,0,box:1(0)))", "fault 3 2"},
		{"bound 2", "+nn", "case:1(x0,case:1(x1,0,fun:1:n(app(x0,0))),0)", "fault 6 1 2 0"},
		{"bound 2", "", "open:1(box:1(split:1(0,0)),0)", "fault 4 0 0"},
		{"bound 2", "", "open:1(box:1(0),box:1(case:1(x0,0,0)))", "fault 5 1 0"},
		{"bound 2", "", "app(fun:1:n(x0),app(fun:1:n(x0),box:1(0)))", "fault 3 1"},
		{"bound 2", "", "pair(pair(0,0),pair(0,pair(fun:0:n(x0),0)))", "fault 9 1 1 0"},
	})
	// The fortieth box from the inside has a type of 41 codes, and 359 others stand around it.
	boxes := numberTerm(0)
	for range 399 {
		boxes = leastTerm(impl.TmBox, boxes)
	}
	if f := found(t, impl.BoundSystem(2), nil, boxes); f.fault != impl.FaultSame || !slices.Equal(f.path, make([]int, 359)) {
		t.Errorf("399 boxes: %v", f)
	}
}

// TestVariablesUnderOthers has a type for each variable that tells it from all others.
func TestVariablesUnderOthers(t *testing.T) {
	const four = "pair(x0,pair(x1,pair(x2,x3)))"
	checkTyping(t, []typingCase{
		{"bound 2", "n !1.n *nn", "fun:1:+nn(" + four + ")", ">1.+nn*+nn*n*!1.n*nn 1 1 1"},
		{"bound 2", "n !1.n", "split:1(pair(box:2(0),box:3(0)),pair(x0,pair(x1,pair(x2,x3))))", "*!3.n*!2.n*n!1.n 1 1"},
		{"bound 2", "n !1.n *nn", "open:1(box:1(left:n(0))," + four + ")", "*+nn*n*!1.n*nn 1 1 1"},
		{"bound 2", "n !1.n *nn", "case:1(left:+nn(right:n(0))," + four + "," + four + ")", "*+nn*n*!1.n*nn 1 1 1"},
		{"bound 2", "n !1.n", "fun:1:!2.n(fun:1:!3.n(" + four + "))", ">1.!2.n>1.!3.n*!3.n*!2.n*n!1.n 1 1"},
		{"bound 2", "n !1.n", "split:2(pair(0,0),split:1(pair(box:2(x1),box:3(x3)),pair(pair(x0,x1),pair(x4,x5))))", "**!3.!1.n!2.n*n!1.n 1 3"},
		{"bound 2", "+!1.n*nn !2.n", "case:1(x0,open:1(x0,pair(x0,x3)),split:1(x0,pair(add(x0,x1),x4)))", "*n!2.n 1 1"},
		{"bound 2", "n n", "fun:1:n(split:2(pair(x0,x2),add(x0,add(x1,add(x3,x4)))))", "fault 9"},
		{"bound 2", "n n", "fun:2:n(split:2(pair(x0,x2),add(x0,add(x1,add(x3,x4)))))", ">2.nn 1 3"},
	})
}

func TestTypesOfMostCodesOfTerms(t *testing.T) {
	l := longType
	checkTyping(t, []typingCase{
		{"bound 2", l(40), "x0", l(40) + " 1"},
		{"bound 2", l(20) + " " + l(19), "pair(x0,x1)", "*" + l(20) + l(19) + " 1 1"},
		{"bound 2", l(20) + " " + l(20), "pair(x0,x1)", "fault 3"},
		{"bound 2", l(39), "pair(x0,0)", "fault 3"},
		{"bound 2", l(40), "pair(0,x0)", "fault 3"},
		{"bound 2", l(20), "left:" + l(19) + "(x0)", "+" + l(20) + l(19) + " 1"},
		{"bound 2", l(20), "left:" + l(20) + "(x0)", "fault 3"},
		{"bound 2", "", "left:" + l(40) + "(0)", "fault 3"},
		{"bound 2", l(20), "right:" + l(19) + "(x0)", "+" + l(19) + l(20) + " 1"},
		{"bound 2", l(20), "right:" + l(20) + "(x0)", "fault 3"},
		{"bound 2", "", "right:" + l(39) + "(0)", "fault 3"},
		{"bound 2", l(20), "fun:1:" + l(19) + "(x1)", ">1." + l(19) + l(20) + " 1"},
		{"bound 2", l(20), "fun:1:" + l(20) + "(x1)", "fault 3"},
		{"bound 2", l(20), "fun:1:" + l(20) + "(x0)", "fault 3"},
		{"bound 2", l(39), "box:1(x0)", "!1." + l(39) + " 1"},
		{"bound 2", l(40), "box:1(x0)", "fault 3"},
		{"bound 2", l(40), "if(0,x0,x0)", l(40) + " 1"},
		{"bound 2", l(40), "open:1(x0,0)", "n 1"},
		{"bound 2", ">1.n" + l(38), "app(x0,0)", l(38) + " 1"},
		{"bound 2", "*n" + l(38), "split:1(x0,x0)", l(38) + " 1"},
		{"bound 2", "+n" + l(38), "case:1(x0,0,1)", "n 1"},
		// What has a type that is too long may not even be thrown away.
		{"bound 2", l(39), "split:1(pair(x0,0),0)", "fault 3 0"},
	})
}

// TestTypingOfMadeTerms compares with the table of the document in systems of all kinds.
func TestTypingOfMadeTerms(t *testing.T) {
	typed, faults := map[int]int{}, map[int]int{}
	check := func(name string, s impl.System, ctx [][]int, x impl.Term) {
		got, want := found(t, s, ctx, x), slowFind(s, ctx, x)
		if got.String() != want.String() {
			t.Fatalf("%s: %s in %v: %v, not %v", name, textOf(x), ctx, got, want)
		}
		faults[got.fault]++
		if got.fault == impl.FaultNone {
			typed[x.Op]++
		}
	}
	for name, s := range goodSystems() {
		m, others := newTypedMaker(s), newTermMaker(s.Size, false)
		for i := range 400 {
			ctx := m.context(4)
			x := m.make(ctx, m.typ(6), i%24)
			check(name, s, ctx, x)
			changed := copyOfTerm(x)
			change(m, &changed)
			if impl.IsTerm(s, changed, len(ctx)) {
				check(name, s, ctx, changed)
			}
			y, _ := others.make(1+i%10, len(ctx))
			check(name, s, ctx, y)
		}
	}
	for op := impl.TmVar; op <= impl.TmOpen; op++ {
		if typed[op] < 20 {
			t.Errorf("only %d terms with the Op %d have a type", typed[op], op)
		}
	}
	for fault := impl.FaultNone; fault <= impl.FaultNeed; fault++ {
		if fault != impl.FaultInput && faults[fault] < 20 {
			t.Errorf("only %d terms have the fault %d", faults[fault], fault)
		}
	}
}

// change puts another grade, another variable or a number somewhere into the term.
func change(m *typedMaker, t *impl.Term) {
	for len(t.Kids) > 0 && m.r.Intn(4) > 0 {
		t = &t.Kids[m.r.Intn(len(t.Kids))]
	}
	switch {
	case t.Op == impl.TmVar && m.r.Intn(2) == 0:
		t.N = max(0, t.N+m.r.Intn(3)-1)
	case rows[t.Op].graded:
		t.N = m.grade()
	default:
		*t = numberTerm(m.r.Intn(3))
	}
}

func TestTypingOfTermsOfMostNodes(t *testing.T) {
	ctx := slices.Repeat([][]int{{0}}, 8)
	for _, s := range []impl.System{impl.LevelSystem(15), impl.BoundSystem(14)} {
		for name, x := range towers(400) {
			got, want := found(t, s, ctx, x), slowFind(s, ctx, x)
			if got.String() != want.String() {
				t.Errorf("%s: %v, not %v", name, got, want)
			}
		}
	}
	s, add, pair := impl.BoundSystem(14), variableTerm(7), variableTerm(0)
	for range 133 {
		add = leastTerm(impl.TmIf, variableTerm(7), variableTerm(7), add)
	}
	for range 99 {
		// Each split has a pair of its own, so that 198 variables are added in the end.
		pair = leastTerm(impl.TmSplit, leastTerm(impl.TmPair, numberTerm(0), numberTerm(0)), pair)
	}
	if f := found(t, s, ctx, add); f.String() != "n 0 0 0 0 0 0 0 15" {
		t.Errorf("133 branches: %v", f)
	}
	if f := found(t, s, ctx, pair); f.String() != "n 0 0 0 0 0 0 0 0" {
		t.Errorf("99 splits: %v", f)
	}
	if f := found(t, s, ctx, leastTerm(impl.TmPair, add, pair)); f.fault != impl.FaultInput {
		t.Errorf("more than MaxTerm nodes: %v", f)
	}
}

func TestContextsOfMostTypes(t *testing.T) {
	s := impl.BoundSystem(2)
	ctx := contextOf(t, "n !0.n !1.n !2.n !3.n *nn +nn >1.nn")
	for i, ty := range ctx {
		f := found(t, s, ctx, variableTerm(i))
		needs := make([]int, 8)
		needs[i] = 1
		if f.fault != impl.FaultNone || !slices.Equal(f.ty, ty) || !slices.Equal(f.needs, needs) {
			t.Errorf("the variable %d of eight: %v", i, f)
		}
	}
	if f := found(t, s, ctx, variableTerm(8)); f.fault != impl.FaultInput {
		t.Errorf("the variable 8 of eight: %v", f)
	}
	more := append(slices.Clone(ctx), []int{0})
	if f := found(t, s, more, numberTerm(0)); f.fault != impl.FaultInput {
		t.Errorf("a context of nine types: %v", f)
	}
	for n := range ctx {
		if f := found(t, s, ctx[:n], variableTerm(n)); f.fault != impl.FaultInput {
			t.Errorf("the variable %d of %d: %v", n, n, f)
		}
	}
}

// inputs calls f for arguments with which nothing has a type: no systems, no contexts and no terms.
func inputs(f func(name string, s impl.System, ctx [][]int, x impl.Term)) {
	good := impl.BoundSystem(2)
	for name, s := range badSystems() {
		f(name, s, nil, numberTerm(0))
		f(name, s, [][]int{{0}}, variableTerm(0))
	}
	for name, ctx := range badContexts() {
		f(name, good, ctx, numberTerm(0))
	}
	for name, x := range badTerms() {
		f(name, good, nil, x)
		f(name, good, [][]int{{0}}, leastTerm(impl.TmAdd, x, numberTerm(0)))
		// Where a fault stands ahead of it, too.
		f(name, good, nil, leastTerm(impl.TmAdd, leastTerm(impl.TmApp, numberTerm(0), numberTerm(0)), x))
	}
	for _, text := range []string{
		"x1", "fun:1:n(x2)", "split:1(pair(0,0),x3)", "case:1(left:n(0),x2,0)", "case:1(left:n(0),0,x2)", "open:1(box:1(0),x2)",
		"fun:?:n(0)", "fun:1:!?.n(0)", "left:>?.nn(0)", "right:!?.n(0)", "box:?(0)", "split:?(pair(0,0),0)", "case:?(left:n(0),0,0)",
		"open:?(box:1(0),0)", "fun:4:n(0)", "fun:1:!4.n(0)", "left:>4.nn(0)", "right:!15.n(0)", "box:4(0)", "split:4(pair(0,0),0)",
		"case:4(left:n(0),0,0)", "open:4(box:1(0),0)", "add(app(0,0),box:4(0))", "box:1(box:1(box:?(0)))",
	} {
		x, _ := impl.ParseTerm(text)
		f(text, good, [][]int{{0}}, x)
	}
}

func TestFaultInput(t *testing.T) {
	inputs(func(name string, s impl.System, ctx [][]int, x impl.Term) {
		ty, needs, ok := impl.TypeOf(s, ctx, x)
		if ok || len(ty)+len(needs) > 0 {
			t.Errorf("%s: TypeOf is %v, %v, %v", name, ty, needs, ok)
		}
		if fault, path := impl.FaultOf(s, ctx, x); fault != impl.FaultInput || len(path) > 0 {
			t.Errorf("%s: FaultOf is %d, %v", name, fault, path)
		}
		budgets := slices.Repeat([]int{3}, min(len(ctx), 9))
		if impl.Fits(s, ctx, budgets, x, []int{0}) || impl.Fits(s, ctx, budgets, x, nil) {
			t.Errorf("%s: Fits", name)
		}
		if l := impl.TypesWithin(s, ctx, x); len(l) > 0 {
			t.Errorf("%s: TypesWithin is %v", name, l)
		}
		if got, ok := impl.CloseTerm(s, ctx, budgets, x); ok || !isZeroTerm(got) {
			t.Errorf("%s: CloseTerm is %v, %v", name, got, ok)
		}
	})
}

func TestFits(t *testing.T) {
	for _, c := range []struct {
		system, ctx, term, ty string
		budgets               []int
		want                  bool
	}{
		{"bound 2", "", "1", "n", nil, true},
		{"bound 2", "", "1", "n", []int{}, true},
		{"bound 2", "", "1", "n", []int{0}, false},
		{"bound 2", "", "1", "!1.n", nil, false},
		{"bound 2", "", "1", "", nil, false},
		{"bound 2", "", "box:1(0)", "!2.n", nil, false},
		{"bound 2", "", "box:1(0)", "!?.n", nil, false},
		{"bound 2", "", "box:1(0)", "!1.n", nil, true},
		{"bound 2", "", "pair(0,0)", "n", nil, false},
		{"bound 2", "n", "add(x0,x0)", "n", []int{2}, true},
		{"bound 2", "n", "add(x0,x0)", "n", []int{3}, true},
		{"bound 2", "n", "add(x0,x0)", "n", []int{1}, false},
		{"bound 2", "n", "add(x0,x0)", "n", []int{0}, false},
		{"bound 2", "n", "add(x0,x0)", "n", []int{4}, false},
		{"bound 2", "n", "add(x0,x0)", "n", []int{-1}, false},
		{"bound 2", "n", "add(x0,x0)", "n", []int{1 << 62}, false},
		{"bound 2", "n", "add(x0,x0)", "n", []int{-1 << 63}, false},
		{"bound 2", "n", "add(x0,x0)", "n", nil, false},
		{"bound 2", "n", "add(x0,x0)", "n", []int{2, 0}, false},
		{"count 2", "n", "add(x0,x0)", "n", []int{2}, true},
		{"count 2", "n", "add(x0,x0)", "n", []int{3}, true},
		{"count 2", "n", "add(x0,x0)", "n", []int{1}, false},
		{"count 2", "n", "0", "n", []int{1}, false},
		{"count 2", "n", "0", "n", []int{0}, true},
		{"level 2", "n", "box:2(x0)", "!2.n", []int{2}, true},
		{"level 2", "n", "box:2(x0)", "!2.n", []int{1}, true},
		{"level 2", "n", "box:2(x0)", "!2.n", []int{0}, false},
		{"bound 2", "n n n", "add(x0,x2)", "n", []int{1, 0, 1}, true},
		{"bound 2", "n n n", "add(x0,x2)", "n", []int{1, 0, 0}, false},
		{"bound 2", "n n n", "add(x0,x2)", "n", []int{0, 0, 1}, false},
		{"bound 2", "n n n", "add(x0,x2)", "n", []int{1, 3, 1}, true},
		{"bound 2", "n n n", "add(x0,x2)", "n", []int{1, 4, 1}, false},
		{"bound 2", "n n n", "add(x0,x2)", "n", []int{1, -1, 1}, false},
		{"bound 2", "n n n", "add(x0,x2)", "n", []int{1, 0}, false},
		{"bound 2", "n", "app(x0,x0)", "n", []int{3}, false},
		{"bound 2", "n", "app(x0,x0)", "", []int{3}, false},
	} {
		s, ctx, x := systemOf(t, c.system), contextOf(t, c.ctx), parsed(t, c.term)
		ty, _ := impl.ParseType(c.ty)
		if got := impl.Fits(s, ctx, c.budgets, x, ty); got != c.want {
			t.Errorf("%s: Fits of %s in %q with %v and the type %q is %v", c.system, c.term, c.ctx, c.budgets, c.ty, got)
		}
	}
}

func TestFitsOfEachBudget(t *testing.T) {
	for name, s := range goodSystems() {
		m := newTypedMaker(s)
		for i := range 60 {
			ctx := m.context(2)
			x := m.make(ctx, m.typ(4), i%8)
			f := slowFind(s, ctx, x)
			for code := range 1 << (2 * len(ctx)) {
				var budgets []int
				want := f.fault == impl.FaultNone
				for v := range ctx {
					budgets = append(budgets, code>>(2*v)&3)
					want = want && budgets[v] < s.Size && s.Below[f.needs[v]*s.Size+budgets[v]]
				}
				if got := impl.Fits(s, ctx, budgets, x, f.ty); got != want {
					t.Fatalf("%s: Fits of %s in %v with %v is %v", name, textOf(x), ctx, budgets, got)
				}
				if got, ok := impl.CloseTerm(s, ctx, budgets, x); ok != want || ok && textOf(got) != closedText(ctx, budgets, x) || !ok && !isZeroTerm(got) {
					t.Fatalf("%s: CloseTerm of %s in %v with %v is %s, %v", name, textOf(x), ctx, budgets, textOf(got), ok)
				}
			}
		}
	}
}

// slowTypesWithin takes a term that has a type.
func slowTypesWithin(s impl.System, ctx [][]int, t impl.Term) []string {
	l := []string{typeText(slowFind(s, ctx, t).ty)}
	for k, kid := range t.Kids {
		var added [][]int
		if rows[t.Op].adds[k] > 0 && t.Op == impl.TmFun {
			added = [][]int{t.Type}
		} else if rows[t.Op].adds[k] > 0 {
			a := slowFind(s, ctx, t.Kids[0]).ty
			if t.Op == impl.TmOpen {
				added = [][]int{a[1:]}
			} else {
				first, second := slowParts(a)
				added = map[int][][]int{impl.TmSplit*10 + 1: {second, first}, impl.TmCase*10 + 1: {first}, impl.TmCase*10 + 2: {second}}[t.Op*10+k]
			}
		}
		l = append(l, slowTypesWithin(s, slices.Concat(added, ctx), kid)...)
	}
	return l
}

func typeTexts(l [][]int) []string {
	var texts []string
	for _, ty := range l {
		texts = append(texts, typeText(ty))
	}
	return texts
}

func TestTypesWithin(t *testing.T) {
	s := impl.BoundSystem(2)
	for text, want := range map[string]string{
		"1":                                       "n",
		"fun:1:n(x0)":                             ">1.nn n",
		"app(fun:2:n(pair(x0,x0)),2)":             "*nn >2.n*nn *nn n n n",
		"split:1(pair(0,box:1(1)),x0)":            "!1.n *n!1.n n !1.n n !1.n",
		"case:1(left:!1.n(0),x0,open:1(x0,x0))":   "n +n!1.n n n n !1.n n",
		"if(0,box:1(1),box:1(add(2,1)))":          "!1.n n !1.n n !1.n n n n",
		"open:1(box:2(pair(0,fun:0:n(1))),x0)":    "*n>0.nn !2.*n>0.nn *n>0.nn n >0.nn n *n>0.nn",
		"right:*nn(left:n(0))":                    "+*nn+nn +nn n",
		"pair(0,app(0,0))":                        "",
		"app(0,0)":                                "",
		"fun:1:n(add(x0,x0))":                     "",
		"add(pair(0,0),1)":                        "",
		"box:1(x0)":                               "",
		"split:1(pair(0,0),split:0(pair(0,0),0))": "",
	} {
		if got := typeTexts(impl.TypesWithin(s, nil, parsed(t, text))); strings.Join(got, " ") != want {
			t.Errorf("TypesWithin of %s is %v", text, got)
		}
	}
	for name, s := range goodSystems() {
		m := newTypedMaker(s)
		for i := range 100 {
			ctx := m.context(4)
			x := m.make(ctx, m.typ(6), i%20)
			var want []string
			if slowFind(s, ctx, x).fault == impl.FaultNone {
				want = slowTypesWithin(s, ctx, x)
			}
			if got := typeTexts(impl.TypesWithin(s, ctx, x)); !slices.Equal(got, want) {
				t.Fatalf("%s: TypesWithin of %s in %v is %v, not %v", name, textOf(x), ctx, got, want)
			}
		}
	}
}
