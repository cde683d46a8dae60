package tests

import (
	"maps"
	"math/rand"
	"slices"
	"strconv"
	"strings"
	"testing"

	"loop.example/g03111/impl"
)

type erasure struct{ system, view, ctx, term, want string }

func checkErasures(t *testing.T, cases []erasure) {
	t.Helper()
	for _, c := range cases {
		s, view, ctx, x := systemOf(t, c.system), viewOf(t, c.view), contextOf(t, c.ctx), parsed(t, c.term)
		if got := erasedTerm(t, s, view, ctx, x); got != c.want {
			t.Errorf("%s for %s: EraseTerm of %s in %q is %s, not %s", c.system, c.view, c.term, c.ctx, got, c.want)
		}
	}
}

func TestEraseTerm(t *testing.T) {
	checkErasures(t, []erasure{
		{"count 1", "1 2", "", "app(fun:0:n(1),2)", "app(fun:0:n(1),0)"},
		{"count 1", "1 2", "", "app(fun:1:n(x0),2)", "app(fun:1:n(x0),2)"},
		{"count 1", "1 2", "", "app(fun:2:n(add(x0,x0)),2)", "app(fun:2:n(add(x0,x0)),2)"},
		{"count 1", "1 2", "", "2", "2"},
		{"count 1", "1 2", "n", "x0", "x0"},
		{"count 1", "1 2", "", "box:0(2)", "box:0(0)"},
		{"count 1", "1 2", "", "box:1(2)", "box:1(2)"},
		{"count 1", "1 2", "", "box:2(2)", "box:2(2)"},
		{"count 1", "1 2", "", "box:0(add(1,2))", "box:0(0)"},
		{"count 1", "1 2", "", "box:1(add(1,2))", "box:1(add(1,2))"},
		{"count 1", "1 2", "", "box:1(box:0(2))", "box:1(box:0(0))"},
		{"count 1", "1 2", "", "box:0(box:1(2))", "box:0(box:1(0))"},
		{"count 1", "1 2", "", "box:0(box:0(2))", "box:0(box:0(0))"},
		{"count 1", "1 2", "", "box:2(box:1(2))", "box:2(box:1(2))"},
		{"count 1", "1 2", "", "box:0(pair(2,left:!1.n(1)))", "box:0(pair(0,left:!1.n(0)))"},
		{"count 1", "1 2", "", "box:0(right:!1.n(1))", "box:0(left:n(box:1(0)))"},
		// All kids of all terms are looked at, whatever stands beside them.
		{"count 1", "1 2", "", "pair(box:0(2),box:1(box:0(1)))", "pair(box:0(0),box:1(box:0(0)))"},
		{"count 1", "1 2", "", "add(app(fun:0:n(1),2),app(fun:0:n(2),1))", "add(app(fun:0:n(1),0),app(fun:0:n(2),0))"},
		{"count 1", "1 2", "", "if(app(fun:0:n(1),2),box:0(1),box:0(2))", "if(app(fun:0:n(1),0),box:0(0),box:0(0))"},
		{"count 1", "1 2", "", "left:>0.nn(box:0(1))", "left:>0.nn(box:0(0))"},
		{"count 1", "1 2", "", "right:+n!1.n(box:0(2))", "right:+n!1.n(box:0(0))"},
		{"count 1", "1 2", "", "split:2(pair(box:0(1),2),pair(x0,box:0(1)))", "split:2(pair(box:0(0),2),pair(x0,box:0(0)))"},
		{"count 1", "1 2", "", "case:2(left:n(app(fun:0:n(1),2)),box:0(1),box:0(2))", "case:2(left:n(app(fun:0:n(1),0)),box:0(0),box:0(0))"},
		{"count 1", "1 2", "", "open:2(box:0(1),box:0(2))", "open:2(box:0(0),box:0(0))"},
		{"count 1", "1 2", "", "fun:0:!1.n(box:0(2))", "fun:0:!1.n(box:0(0))"},
		{"count 1", "1 2", "", "app(fun:1:!0.n(x0),box:0(2))", "app(fun:1:!0.n(x0),box:0(0))"},
		{"count 1", "1 2", "", "app(fun:0:!0.n(1),box:0(2))", "app(fun:0:!0.n(1),box:0(0))"},
		{"count 1", "1 2", "", "app(fun:0:!1.n(1),box:1(2))", "app(fun:0:!1.n(1),box:1(0))"},
		{"count 1", "1 2", "", "app(fun:1:n(pair(x0,box:0(x0))),2)", "app(fun:1:n(pair(x0,box:0(0))),2)"},
		{"count 1", "1 2", "", "app(app(fun:0:n(fun:1:n(x0)),2),1)", "app(app(fun:0:n(fun:1:n(x0)),0),1)"},
		{"count 1", "1 2", "", "app(app(fun:1:n(fun:0:n(x1)),2),1)", "app(app(fun:1:n(fun:0:n(x1)),2),0)"},
		{"count 1", "1 2", "", "app(app(fun:0:n(fun:0:n(1)),2),1)", "app(app(fun:0:n(fun:0:n(1)),0),0)"},
		// The type of what is replaced has its own variables, and those that are added on the way.
		{"count 1", "1 2", "n", "box:0(x0)", "box:0(0)"},
		{"count 1", "1 2", "n !1.n", "box:0(x1)", "box:0(box:1(0))"},
		{"count 1", "1 2", "+n!1.n", "box:0(x0)", "box:0(left:!1.n(0))"},
		{"count 1", "1 2", "*n+n!2.n", "box:0(x0)", "box:0(pair(0,left:!2.n(0)))"},
		{"count 1", "1 2", "n", "fun:0:!1.n(box:0(x0))", "fun:0:!1.n(box:0(box:1(0)))"},
		{"count 1", "1 2", "*nn", "fun:0:!1.n(box:0(x1))", "fun:0:!1.n(box:0(pair(0,0)))"},
		{"count 1", "1 2", "*!1.nn", "split:2(x0,box:0(x0))", "split:2(x0,box:0(0))"},
		{"count 1", "1 2", "*!1.nn", "split:2(x0,box:0(x1))", "split:2(x0,box:0(box:1(0)))"},
		{"count 1", "1 2", "*!1.nn", "split:2(x0,box:0(x2))", "split:2(x0,box:0(pair(box:1(0),0)))"},
		{"count 1", "1 2", "+!1.nn", "case:2(x0,box:0(x0),box:0(box:1(x0)))", "case:2(x0,box:0(box:1(0)),box:0(box:1(0)))"},
		{"count 1", "1 2", "+n!1.n", "case:2(x0,box:0(box:1(x0)),box:0(x0))", "case:2(x0,box:0(box:1(0)),box:0(box:1(0)))"},
		{"count 1", "1 2", "!1.!2.n", "open:2(x0,box:0(x0))", "open:2(x0,box:0(box:2(0)))"},
		{"count 1", "1 2", "!1.!2.n", "open:2(x0,box:0(x1))", "open:2(x0,box:0(box:1(box:2(0))))"},
		// The type of a function is found through a context, a case, a split, an open, a function or an if.
		{"count 1", "1 2", ">0.nn n", "app(x0,x1)", "app(x0,0)"},
		{"count 1", "1 2", ">1.nn n", "app(x0,x1)", "app(x0,x1)"},
		{"count 1", "1 2", ">2.nn n", "app(x0,x1)", "app(x0,x1)"},
		{"count 1", "1 2", "!1.n >0.!1.nn", "app(x1,x0)", "app(x1,box:1(0))"},
		{"count 1", "1 2", "*>0.nnn", "split:2(x0,app(x1,x0))", "split:2(x0,app(x1,0))"},
		{"count 1", "1 2", "*n>0.nn", "split:2(x0,app(x0,x1))", "split:2(x0,app(x0,0))"},
		{"count 1", "1 2", "*n>1.nn", "split:2(x0,app(x0,x1))", "split:2(x0,app(x0,x1))"},
		{"count 1", "1 2", "+>0.nn>1.nn n", "case:1(x0,app(x0,x2),app(x0,x2))", "case:1(x0,app(x0,0),app(x0,x2))"},
		{"count 1", "1 2", "+>1.nn>0.nn n", "case:1(x0,app(x0,x2),app(x0,x2))", "case:1(x0,app(x0,x2),app(x0,0))"},
		{"count 1", "1 2", "!1.>0.nn n", "open:1(x0,app(x0,x2))", "open:1(x0,app(x0,0))"},
		{"count 1", "1 2", "!1.>1.nn n", "open:1(x0,app(x0,x2))", "open:1(x0,app(x0,x2))"},
		{"count 1", "1 2", "", "fun:1:>0.nn(app(x0,2))", "fun:1:>0.nn(app(x0,0))"},
		{"count 1", "1 2", ">0.nn n", "app(if(0,x0,x0),x1)", "app(if(0,x0,x0),0)"},
		{"count 1", "1 2", ">0.n>1.nn n", "app(app(x0,x1),x1)", "app(app(x0,0),x1)"},
		{"count 1", "1 2", ">1.n>0.nn n", "app(app(x0,x1),x1)", "app(app(x0,x1),0)"},
		{"count 1", "1 2", ">1.nn", "app(x0,app(fun:0:n(1),2))", "app(x0,app(fun:0:n(1),0))"},
		{"count 1", "1 2", "*>0.n>0.nnn", "split:2(x0,app(app(x1,x0),x0))", "split:2(x0,app(app(x1,0),0))"},
	})
}

// TestEraseTermByDefaultTerms looks at terms of types with arrows, of which what is put in may have no type.
func TestEraseTermByDefaultTerms(t *testing.T) {
	checkErasures(t, []erasure{
		{"count 1", "1 2", ">1.nn", "box:0(x0)", "box:0(fun:1:n(0))"},
		{"count 1", "1 2", "", "box:0(fun:1:n(x0))", "box:0(fun:1:n(0))"},
		{"count 1", "1 2", "", "box:0(fun:2:*nn(fun:1:n(x0)))", "box:0(fun:2:*nn(fun:1:n(0)))"},
		{"count 1", "1 2", "", "box:0(pair(fun:1:n(x0),fun:0:+nn(2)))", "box:0(pair(fun:1:n(0),fun:0:+nn(0)))"},
		{"count 1", "1 2", "+>1.nn>2.nn", "box:0(x0)", "box:0(left:>2.nn(fun:1:n(0)))"},
		{"count 1", "1 2", "", "app(fun:0:>1.nn(1),fun:1:n(x0))", "app(fun:0:>1.nn(1),fun:1:n(0))"},
		{"count 1", "1 2", "", "app(fun:1:>1.nn(app(x0,2)),fun:1:n(x0))", "app(fun:1:>1.nn(app(x0,2)),fun:1:n(x0))"},
		// Nothing is looked for within what was replaced, nor does it matter that the inner term would have no type.
		{"count 1", "1 2", "", "box:0(app(fun:0:>1.nn(fun:1:n(x0)),fun:1:n(x0)))", "box:0(fun:1:n(0))"},
		{"count 1", "1 2", "", "app(fun:0:n(1),app(fun:0:>1.nn(2),fun:1:n(x0)))", "app(fun:0:n(1),0)"},
		{"count 1", "1 2", "", "app(app(fun:0:>1.nn(fun:0:n(1)),fun:1:n(x0)),2)", "app(app(fun:0:>1.nn(fun:0:n(1)),fun:1:n(0)),0)"},
		{"count 1", "1 2", "", "box:1(app(fun:0:>1.nn(box:0(2)),fun:1:n(x0)))", "box:1(app(fun:0:>1.nn(box:0(0)),fun:1:n(0)))"},
		{"count 1", "1 2", "", "box:0(fun:1:!0.n(x0))", "box:0(fun:1:!0.n(box:0(0)))"},
		{"count 1", "1 2", "", "box:0(fun:0:n(box:0(2)))", "box:0(fun:0:n(box:0(0)))"},
		{"count 1", "1 2", "!0.>0.nn", "box:1(box:0(open:1(x0,app(fun:0:n(1),2))))", "box:1(box:0(0))"},
	})
}

// TestEraseTermForOtherViews looks at the same terms with several views.
func TestEraseTermForOtherViews(t *testing.T) {
	checkErasures(t, []erasure{
		{"level 2", "1", "", "pair(box:0(1),pair(box:1(1),box:2(1)))", "pair(box:0(0),pair(box:1(1),box:2(0)))"},
		{"level 2", "1 2", "", "pair(box:0(1),pair(box:1(1),box:2(1)))", "pair(box:0(0),pair(box:1(1),box:2(1)))"},
		{"level 2", "1", "", "box:1(box:2(1))", "box:1(box:2(0))"},
		{"level 2", "1", "", "box:2(box:1(1))", "box:2(box:1(0))"},
		{"level 2", "1 2", "", "box:2(box:1(1))", "box:2(box:1(1))"},
		{"level 2", "1", "", "app(fun:2:n(box:2(x0)),2)", "app(fun:2:n(box:2(0)),0)"},
		{"level 2", "1 2", "", "app(fun:2:n(box:2(x0)),2)", "app(fun:2:n(box:2(x0)),2)"},
		{"level 2", "1", "", "open:1(box:2(1),box:2(x0))", "open:1(box:2(0),box:2(0))"},
		{"level 2", "1 2", "", "open:1(box:2(1),box:2(x0))", "open:1(box:2(1),box:2(x0))"},
		{"level 2", "1", ">2.nn n", "app(x0,x1)", "app(x0,0)"},
		{"level 2", "1 2", ">2.nn n", "app(x0,x1)", "app(x0,x1)"},
		{"level 2", "1", ">0.nn n", "app(x0,x1)", "app(x0,0)"},
		{"level 2", "1 2", ">0.nn n", "app(x0,x1)", "app(x0,0)"},
		{"level 2", "1", ">1.nn n", "app(x0,x1)", "app(x0,x1)"},
		{"count 1*level 1", "1 2 5", "", "pair(box:2(1),box:3(1))", "pair(box:2(1),box:3(0))"},
		{"count 1*level 1", "1 3 4 5", "", "pair(box:2(1),box:3(1))", "pair(box:2(0),box:3(1))"},
		{"count 1*level 1", "1 2 5", ">2.n>3.nn n", "app(app(x0,x1),x1)", "app(app(x0,x1),0)"},
		{"count 1*level 1", "1 3 4 5", ">2.n>3.nn n", "app(app(x0,x1),x1)", "app(app(x0,0),x1)"},
		{"level 15", "1", "", "pair(box:14(1),pair(box:15(1),box:1(1)))", "pair(box:14(0),pair(box:15(0),box:1(1)))"},
		{"level 15", "1 2 3 4 5 6 7 8 9 10 11 12 13 14", "", "pair(box:14(1),pair(box:15(1),box:1(1)))", "pair(box:14(1),pair(box:15(0),box:1(1)))"},
		{"level 15", "1 2 3 4 5 6 7 8 9 10 11 12 13 14 15", ">15.nn", "app(x0,1)", "app(x0,1)"},
		// Where 0 is not alone in not being seen, a split, a case and an open are seen all the same.
		{"level 1*level 1", "1 2", "*nn", "split:1(x0,box:3(1))", "split:1(x0,box:3(0))"},
		{"level 1*level 1", "1 3", "*nn", "split:1(x0,box:3(1))", "split:1(x0,box:3(1))"},
		{"fading", "1", "", "pair(box:2(1),box:1(1))", "pair(box:2(0),box:1(1))"},
	})
}

// TestEraseTermToMostNodes looks at results of just the number of nodes that is allowed, and of more.
func TestEraseTermToMostNodes(t *testing.T) {
	s, view, ctx := impl.CountSystem(1), []int{1, 2}, contextOf(t, power(19))
	for _, c := range []struct {
		times, nodes int
		want         bool
	}{
		{0, 400, true},
		{1, 359, true},
		{1, 360, false},
		{2, 318, true},
		{2, 319, false},
		{9, 30, true},
		{9, 31, true},
		{9, 32, false},
		{9, 33, false},
		{9, 355, false},
		{10, 1, false},
		{60, 1, false},
		{79, 5, false},
	} {
		x := parsed(t, growingTerm(c.times, c.nodes))
		want := "fails"
		if c.want {
			want = strings.ReplaceAll(textOf(x), "x0", slowDefault(ctx[0]))
			if n := nodesOfText(want); n != c.nodes+41*c.times {
				t.Fatalf("the text has %d nodes", n)
			}
		}
		if got := erasedTerm(t, s, view, ctx, x); got != want {
			t.Errorf("EraseTerm of a term with %d nodes, %d of them replaced, is %s", sizeOf(x), c.times, got)
		}
		// The size is no matter of SeenVariables, nor of terms around which all is replaced.
		whole := leastTerm(impl.TmPair, variableTerm(1), x)
		if sizeOf(whole) <= 400 && seenVariables(s, view, contextOf(t, power(19)+" n"), whole) != "1" {
			t.Errorf("SeenVariables of a term with %d nodes, %d of them replaced, is wrong", sizeOf(x), c.times)
		}
		hidden := impl.Term{Op: impl.TmBox, Kids: []impl.Term{x}}
		if got := erasedTerm(t, s, view, ctx, hidden); sizeOf(hidden) <= 400 && got != "box:0(0)" {
			t.Errorf("EraseTerm of a box around a term with %d nodes, %d of them replaced, is %s", sizeOf(x), c.times, got)
		}
	}
	// A result that is smaller than the term, or just as large, and others that are larger.
	checkErasures(t, []erasure{
		{"count 1", "1 2", "", "box:0(" + ofSize(399) + ")", "box:0(0)"},
		{"count 1", "1 2", "", "box:1(" + ofSize(399) + ")", "box:1(" + ofSize(399) + ")"},
		{"count 1", "1 2", "n", "pair(box:0(x0)," + ofSize(397) + ")", "pair(box:0(0)," + ofSize(397) + ")"},
		{"count 1", "1 2", "!1.n", "pair(box:0(x0)," + ofSize(396) + ")", "pair(box:0(box:1(0))," + ofSize(396) + ")"},
		{"count 1", "1 2", "!1.n", "pair(box:0(x0)," + ofSize(397) + ")", "fails"},
		{"count 1", "1 2", "!1.!1.n", "pair(" + ofSize(395) + ",box:0(x0))", "pair(" + ofSize(395) + ",box:0(box:1(box:1(0))))"},
		{"count 1", "1 2", "!1.!1.n", "pair(" + ofSize(396) + ",box:0(x0))", "fails"},
		{"count 1", "1 2", longType(39), "box:0(x0)", "box:0(" + slowDefault(parsedType(t, longType(39))) + ")"},
	})
}

func TestSeenVariables(t *testing.T) {
	for _, c := range []struct{ system, view, ctx, term, want string }{
		{"count 1", "1 2", "n n", "pair(x1,box:0(x0))", "1"},
		{"count 1", "1 2", "n n n", "add(x0,add(x2,x2))", "0 2"},
		{"count 1", "1 2", "n", "1", ""},
		{"count 1", "1 2", "", "1", ""},
		{"count 1", "1 2", "n n", "app(fun:0:n(x1),x1)", "0"},
		{"count 1", "1 2", "n n", "app(fun:0:n(1),x1)", ""},
		{"count 1", "1 2", ">0.nn n", "app(x0,x1)", "0"},
		{"count 1", "1 2", ">1.nn n", "app(x0,x1)", "0 1"},
		{"count 1", "1 2", "n n n", "if(x2,x1,2)", "1 2"},
		{"count 1", "1 2", "*nn n", "split:1(x0,add(x0,x1))", "0"},
		{"count 1", "1 2", "*nn n", "split:1(x0,add(x0,add(x1,x3)))", "0 1"},
		{"count 1", "1 2", "n n n n n n n n", "add(x7,add(x0,x3))", "0 3 7"},
		{"count 1", "1 2", "n n n n n n n n", "pair(x7,pair(x6,pair(x5,pair(x4,pair(x3,pair(x2,pair(x1,x0)))))))", "0 1 2 3 4 5 6 7"},
		{"count 1", "1 2", "n n n n n n n n", "box:0(x7)", ""},
		{"level 3", "1", "n n n", "pair(x0,pair(box:2(x1),box:3(x2)))", "0"},
		{"level 3", "1 2", "n n n", "pair(x0,pair(box:2(x1),box:3(x2)))", "0 1"},
		{"level 3", "1 2 3", "n n n", "pair(x0,pair(box:2(x1),box:3(x2)))", "0 1 2"},
		{"level 3", "1 2", "n n n", "box:3(pair(x0,x1))", ""},
		{"level 3", "1 2", "n", "pair(x0,box:3(x0))", "0"},
		{"count 1*level 1", "1 2 5", "n n", "pair(box:2(x0),box:3(x1))", "0"},
		{"count 1*level 1", "1 3 4 5", "n n", "pair(box:2(x0),box:3(x1))", "1"},
	} {
		s, view, ctx, x := systemOf(t, c.system), viewOf(t, c.view), contextOf(t, c.ctx), parsed(t, c.term)
		if got := seenVariables(s, view, ctx, x); got != c.want {
			t.Errorf("%s for %s: SeenVariables of %s in %q is %q, not %q", c.system, c.view, c.term, c.ctx, got, c.want)
		}
		if got := erasedTerm(t, s, view, ctx, x); got == "fails" {
			t.Errorf("%s for %s: EraseTerm of %s fails", c.system, c.view, c.term)
		}
	}
}

func TestSeenVariablesWhereEraseTermFails(t *testing.T) {
	for _, c := range []struct{ system, view, ctx, term, want string }{
		// Only the size makes EraseTerm fail.
		{"count 1", "1 2", power(19) + " n", "add(x1," + growingTerm(10, 1) + ")", "1"},
		{"count 1", "1 2", "n " + power(19), "add(x0," + strings.ReplaceAll(growingTerm(10, 1), "x0", "x1") + ")", "0"},
		{"count 1", "1 2", power(19), growingTerm(10, 1), ""},
		{"level 2", "1 2", power(19) + " n n", "pair(x2,pair(" + growingTerm(30, 1) + ",box:2(x1)))", "1 2"},
		// Something else does.
		{"count 1", "1 2", "n n", "pair(x1,add(x0,box:0(1)))", ""},
		{"count 1", "1 2", "n n", "pair(x1,x2)", ""},
		{"count 1", "1 2", power(19) + " n", "add(x1,add(x0," + growingTerm(10, 1) + "))", ""},
		{"count 1", "1", "n", "x0", ""},
		{"count 1", "1 2 3", "n", "x0", ""},
		{"count 1", "0 1 2", "n", "x0", ""},
		{"count 1", "", "n", "x0", ""},
		{"count 1", "1 2", "n n n n n n n n n", "x0", ""},
		{"count 1", "1 2", "n !3.n", "x0", ""},
		{"count 1", "1 2", "n !?.n", "x0", ""},
	} {
		s, view, ctx, x := systemOf(t, c.system), viewOf(t, c.view), contextOf(t, c.ctx), parsed(t, c.term)
		if got := seenVariables(s, view, ctx, x); got != c.want {
			t.Errorf("%s for %s: SeenVariables of %s in %q is %q, not %q", c.system, c.view, c.term, c.ctx, got, c.want)
		}
		if got := erasedTerm(t, s, view, ctx, x); got != "fails" {
			t.Errorf("%s for %s: EraseTerm of %s is %s", c.system, c.view, c.term, got)
		}
	}
}

// TestEraseMadeTerms holds the results against those of a second way, and looks at them once more.
func TestEraseMadeTerms(t *testing.T) {
	changed, kept, typed, untyped, seen, unseen := 0, 0, 0, 0, 0, 0
	for _, v := range allViews(t) {
		m := newTypedMaker(v.s)
		m.r = rand.New(rand.NewSource(int64(len(v.view))))
		for i := range max(30, 150-20*v.s.Size) {
			ctx := m.context(5)
			x := m.make(ctx, m.typ(4), 6+i%40)
			if sizeOf(x) > 400 || slowFind(v.s, ctx, x).fault != impl.FaultNone {
				if got := erasedTerm(t, v.s, v.view, ctx, x); got != "fails" || len(impl.SeenVariables(v.s, v.view, ctx, x)) > 0 {
					t.Fatalf("%s: EraseTerm of %s, which has no type, is %s", v.name, textOf(x), got)
				}
				untyped++
				continue
			}
			want := slowErasedTerm(v.s, v.view, ctx, x)
			got := erasedTerm(t, v.s, v.view, ctx, x)
			if got != want {
				t.Fatalf("%s: EraseTerm of %s is %s, not %s", v.name, textOf(x), got, want)
			}
			if got, want := seenVariables(v.s, v.view, ctx, x), slowSeenVariables(v.s, v.view, ctx, x); got != want {
				t.Fatalf("%s: SeenVariables of %s is %q, not %q", v.name, textOf(x), got, want)
			} else if want == "" {
				unseen++
			} else {
				seen++
			}
			if got == textOf(x) {
				kept++
			} else {
				changed++
			}
			if got == "fails" {
				continue
			}
			left := parsed(t, got)
			f := slowFind(v.s, ctx, left)
			again := erasedTerm(t, v.s, v.view, ctx, left)
			if f.fault == impl.FaultNone {
				typed++
				if again != got || !slices.Equal(f.ty, slowFind(v.s, ctx, x).ty) {
					t.Fatalf("%s: EraseTerm of %s, which is erased already, is %s", v.name, got, again)
				}
			} else if again != "fails" {
				t.Fatalf("%s: EraseTerm of %s, which has no type, is %s", v.name, got, again)
			}
		}
	}
	if changed < 200 || kept < 200 || typed < 200 || untyped < 50 || seen < 200 || unseen < 200 {
		t.Errorf("only %d changed, %d kept, %d typed, %d untyped, %d with seen variables, %d without", changed, kept, typed, untyped, seen, unseen)
	}
}

// TestErasedProgramsEndAlike runs programs and what each view leaves of them. What is left may have no type, but the
// second machine asks for none.
func TestErasedProgramsEndAlike(t *testing.T) {
	changed, runs := 0, 0
	for _, name := range viewedSystems() {
		m := newTypedMaker(systemOf(t, name))
		views := slowViews(m.s)
		for i := range max(40, 120-10*m.s.Size) {
			x, ty := m.makeData(nil, 10+i%70)
			told, _, _, ok := impl.RunProgram(m.s, x)
			if !ok {
				continue
			}
			for _, view := range views {
				left, ok := impl.EraseTerm(m.s, view, nil, x)
				if !ok {
					continue
				}
				end, _, _ := strings.Cut(slowRun(m.s, left), " ")
				if end == "fails" || !impl.AlikeValues(m.s, view, ty, told, parsed(t, end)) {
					t.Fatalf("%s for %v: %s ends with %s, and what is left of it with %s", name, view, textOf(x), textOf(told), end)
				}
				if textOf(left) != textOf(x) {
					changed++
				}
				if got, _, _, ok := impl.RunProgram(m.s, left); ok {
					runs++
					if textOf(got) != end {
						t.Fatalf("%s for %v: RunProgram of %s ends with %s, not %s", name, view, textOf(left), textOf(got), end)
					}
				}
			}
		}
	}
	if changed < 300 || runs < 1000 {
		t.Errorf("only %d programs changed, and %d ran", changed, runs)
	}
}

// TestUnseenVariablesDoNotMatter gives other values to the variables that a view does not see.
func TestUnseenVariablesDoNotMatter(t *testing.T) {
	differ := 0
	for _, v := range allViews(t) {
		m := newTypedMaker(v.s)
		for i := range max(20, 120-16*v.s.Size) {
			ctx := m.dataContext(4)
			x, ty := m.makeData(ctx, 8+i%50)
			seen := impl.SeenVariables(v.s, v.view, ctx, x)
			var values, others []impl.Term
			for k, of := range ctx {
				value := madeValue(m.r, of)
				values = append(values, value)
				if slices.Contains(seen, k) {
					// A value that is alike makes no difference either.
					value = parsed(t, slowErasedValue(v.view, value))
				} else {
					value = madeValue(m.r, of)
				}
				others = append(others, value)
			}
			a, _, ok := impl.Evaluate(v.s, ctx, x, values)
			b, _, okOther := impl.Evaluate(v.s, ctx, x, others)
			if !ok || !okOther {
				continue
			}
			if !impl.AlikeValues(v.s, v.view, ty, a, b) {
				t.Fatalf("%s: what is told of %s depends on other variables than %v", v.name, textOf(x), seen)
			}
			if !slices.EqualFunc(values, others, equalTerms) {
				differ++
			}
		}
	}
	if differ < 300 {
		t.Errorf("only %d terms with other values", differ)
	}
}

func checkNothingOfTerms(t *testing.T, reason string, s impl.System, view []int, ctx [][]int, x impl.Term) {
	t.Helper()
	if got := erasedTerm(t, s, view, ctx, x); got != "fails" {
		t.Errorf("%s: EraseTerm is %s", reason, got)
	}
	if got := impl.SeenVariables(s, view, ctx, x); len(got) > 0 {
		t.Errorf("%s: SeenVariables is %v", reason, got)
	}
}

func TestTermsForWhatIsNoView(t *testing.T) {
	for reason, bad := range badViews() {
		checkNothingOfTerms(t, reason, systemOf(t, bad.system), bad.view, [][]int{{0}}, variableTerm(0))
	}
	for name, s := range badSystems() {
		for _, view := range [][]int{nil, {1}, {1, 2}, {1, 2, 3}} {
			checkNothingOfTerms(t, name, s, view, [][]int{{0}}, variableTerm(0))
			checkNothingOfTerms(t, name, s, view, nil, numberTerm(1))
		}
	}
	for name, s := range lawBreakers() {
		for _, view := range subsets(s.Size) {
			checkNothingOfTerms(t, name, s, view, [][]int{{0}}, variableTerm(0))
		}
	}
	for _, name := range slices.Sorted(maps.Keys(goodSystems())) {
		s := systemOf(t, name)
		for _, view := range subsets(s.Size) {
			if !slowIsView(s, view) {
				checkNothingOfTerms(t, name+" "+strings.Join(digitsOf(view), " "), s, view, [][]int{{0}}, variableTerm(0))
			}
		}
		for _, g := range strange(s.Size) {
			checkNothingOfTerms(t, name+" "+strconv.Itoa(g), s, []int{1, g}, [][]int{{0}}, variableTerm(0))
		}
	}
}

func TestTermsWithoutTypesForViews(t *testing.T) {
	s, view := impl.CountSystem(2), []int{1, 2, 3}
	for reason, bad := range badTerms() {
		checkNothingOfTerms(t, reason, s, view, nil, bad)
		checkNothingOfTerms(t, reason, s, view, slices.Repeat([][]int{{0}}, 8), bad)
		checkNothingOfTerms(t, reason, s, view, nil, impl.Term{Op: impl.TmBox, Kids: []impl.Term{bad}})
		checkNothingOfTerms(t, reason, s, view, [][]int{{0}}, leastTerm(impl.TmPair, variableTerm(0), bad))
	}
	for reason, ctx := range badContexts() {
		checkNothingOfTerms(t, reason, s, view, ctx, variableTerm(0))
		checkNothingOfTerms(t, reason, s, view, ctx, numberTerm(1))
	}
	// A term that is too large itself, whatever is left of it.
	large := leastTerm(impl.TmAdd, variableTerm(0), parsed(t, ofSize(399)))
	checkNothingOfTerms(t, "401 nodes", s, view, [][]int{{0}}, large)
	checkNothingOfTerms(t, "402 nodes", s, view, [][]int{{0}}, impl.Term{Op: impl.TmBox, Kids: []impl.Term{large}})
	// Faults of all kinds, within what would be replaced as well.
	for _, text := range []string{
		"x1", "x7", "add(1,box:0(1))", "add(box:0(1),1)", "if(box:0(1),1,1)", "if(1,1,box:0(1))", "split:1(1,x0)",
		"split:0(pair(1,1),1)", "split:1(pair(1,1),x0)", "case:1(1,x0,x0)", "case:0(left:n(1),1,1)", "case:1(left:n(1),x0,box:0(x0))",
		"app(1,1)", "app(fun:0:n(1),box:0(1))", "fun:0:n(x0)", "fun:1:n(1)", "open:1(1,x0)", "open:0(box:1(1),1)", "open:1(box:1(1),1)",
		"fun:4:n(1)", "box:4(1)", "box:?(1)", "fun:0:!4.n(1)", "fun:0:!?.n(1)", "left:>4.nn(1)",
		"box:0(" + strings.Repeat("box:1(", 39) + "1" + strings.Repeat(")", 40),
	} {
		for _, around := range []string{text, "box:0(" + text + ")", "app(fun:0:n(1)," + text + ")", "pair(x0," + text + ")"} {
			x, ok := impl.ParseTerm(around)
			if !ok {
				t.Fatal(around)
			}
			checkNothingOfTerms(t, around, s, view, [][]int{{0}}, x)
		}
	}
	for reason, text := range noPrograms() {
		x := parsed(t, text)
		if slowIsTerm(x, s.Size, false, 0) && slowFind(s, nil, x).fault == impl.FaultNone {
			continue
		}
		checkNothingOfTerms(t, reason, s, view, nil, x)
	}
}

// TestViewsOfTermsInContexts looks at contexts with as many variables as there may be, and with one more.
func TestViewsOfTermsInContexts(t *testing.T) {
	s, view := impl.CountSystem(1), []int{1, 2}
	for n := range 10 {
		ctx := slices.Repeat([][]int{{20, 0}}, n)
		for i := range n + 2 {
			x := leastTerm(impl.TmPair, variableTerm(i), impl.Term{Op: impl.TmBox, Kids: []impl.Term{variableTerm(max(n, 1) - 1 - i%max(n, 1))}})
			want, seen := "fails", ""
			if n <= 8 && i < n {
				want, seen = "pair(x"+strconv.Itoa(i)+",box:0(box:1(0)))", strconv.Itoa(i)
			}
			if got := erasedTerm(t, s, view, ctx, x); got != want {
				t.Errorf("EraseTerm of %s with %d variables is %s", textOf(x), n, got)
			}
			if got := seenVariables(s, view, ctx, x); got != seen {
				t.Errorf("SeenVariables of %s with %d variables is %s", textOf(x), n, got)
			}
		}
	}
}

func TestViewsOfTermsChangeNoArgument(t *testing.T) {
	for _, v := range allViews(t) {
		m := newTypedMaker(v.s)
		for i := range max(6, 40-6*v.s.Size) {
			ctx := m.context(4)
			x := m.make(ctx, m.typ(4), 6+i%40)
			if sizeOf(x) > 400 {
				continue
			}
			wide, wideView := wideContext(ctx), wideList(v.view)
			keepsTerms(t, "EraseTerm", func(l []impl.Term) []impl.Term {
				left, _ := impl.EraseTerm(v.s, wideView, wide, l[0])
				seen := impl.SeenVariables(v.s, wideView, wide, l[0])
				for j := range seen[:cap(seen)] {
					seen[:cap(seen)][j] = -9
				}
				return []impl.Term{left}
			}, x)
			left, _ := impl.EraseTerm(v.s, wideView, wide, x)
			scribble(&left, 1000)
			if !keptContext(wide, ctx) || !keptList(wideView, v.view) {
				t.Fatalf("%s: a function changes a list for %s, or returns its memory", v.name, textOf(x))
			}
		}
	}
	unchanged(t, "a function of terms and views", impl.LevelSystem(2), func(s impl.System) {
		x := parsed(t, "pair(x0,box:2(x1))")
		for _, view := range [][]int{{1}, {1, 2}, {2}} {
			impl.EraseTerm(s, view, [][]int{{0}, {0}}, x)
			impl.SeenVariables(s, view, [][]int{{0}, {0}}, x)
		}
	})
}

// TestErasedTermSharesNoMemory looks at a term whose parts share their memory, with each other and with the context.
func TestErasedTermSharesNoMemory(t *testing.T) {
	s, view := impl.CountSystem(1), []int{1, 2}
	ty := []int{2, 0, 0}
	box := impl.Term{Op: impl.TmBox, Kids: []impl.Term{variableTerm(0)}}
	left := impl.Term{Op: impl.TmLeft, Type: ty, Kids: []impl.Term{box}}
	function := impl.Term{Op: impl.TmFun, Type: ty, Kids: []impl.Term{box}}
	x := leastTerm(impl.TmPair, leastTerm(impl.TmPair, left, left), leastTerm(impl.TmPair, function, function))
	got, ok := impl.EraseTerm(s, view, [][]int{ty}, x)
	a, b := "left:+nn(box:0(left:n(0)))", "fun:0:+nn(box:0(left:n(0)))"
	if !ok || textOf(got) != "pair(pair("+a+","+a+"),pair("+b+","+b+"))" {
		t.Errorf("EraseTerm is %s, %v", textOf(got), ok)
	}
	scribbleAndLook(t, "EraseTerm", got)
	if !slices.Equal(ty, []int{2, 0, 0}) || textOf(x.Kids[0].Kids[1]) != "left:+nn(box:0(x0))" {
		t.Errorf("EraseTerm returns memory of its arguments")
	}
}

// TestReplacedTermsShareNoMemory looks at default terms whose types stand in the context or in the term.
func TestReplacedTermsShareNoMemory(t *testing.T) {
	s, view := impl.CountSystem(1), []int{1, 2}
	for _, text := range []string{"+n!1.n", ">1.!2.nn", "*>0.!2.nn+!1.nn", "!2.>1.*nnn", ">1.n+n!1.n"} {
		ty := parsedType(t, text)
		for _, c := range []struct{ term, want string }{
			{"pair(box:0(x0),box:0(x0))", "pair(box:0(D),box:0(D))"},
			{"pair(box:0(x1),box:0(x0))", "pair(box:0(D),box:0(D))"},
			{"add(app(fun:0:T(1),x0),app(fun:0:T(2),x0))", "add(app(fun:0:T(1),D),app(fun:0:T(2),D))"},
			{"fun:0:T(pair(box:0(x0),box:0(x1)))", "fun:0:T(pair(box:0(D),box:0(D)))"},
		} {
			x := parsed(t, strings.ReplaceAll(c.term, "T", text))
			want := strings.ReplaceAll(strings.ReplaceAll(c.want, "D", slowDefault(ty)), "T", text)
			got, ok := impl.EraseTerm(s, view, [][]int{ty, ty}, x)
			if !ok || textOf(got) != want {
				t.Errorf("EraseTerm of %s is %s, %v, not %s", textOf(x), textOf(got), ok, want)
			}
			scribbleAndLook(t, "EraseTerm", got)
			if typeText(ty) != text || textOf(x) != strings.ReplaceAll(c.term, "T", text) {
				t.Fatalf("EraseTerm of %s returns memory of its arguments", c.term)
			}
		}
	}
}
