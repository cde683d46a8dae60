package tests

import (
	"maps"
	"math/rand"
	"slices"
	"strings"
	"testing"

	"loop.example/g03111/impl"
)

// runCase says what a program leads to: what is told, the number of looks, and each cell's budget and what is booked.
type runCase struct{ system, term, want string }

func checkRuns(t *testing.T, cases []runCase) {
	t.Helper()
	for _, c := range cases {
		s, x := systemOf(t, c.system), parsed(t, c.term)
		if c.want != "fails" && slowRun(s, x) != c.want {
			t.Errorf("%s: the tests have %s for %s, not %s", c.system, slowRun(s, x), c.term, c.want)
		}
		if got := run(t, s, x); got != c.want {
			t.Errorf("%s: RunProgram of %s is %s, not %s", c.system, c.term, got, c.want)
		}
		checkRun(t, s, x)
	}
}

// checkRun holds what is told against what contraction leads to, and what is booked against the budgets. It reports
// whether there is something told, and a normal form.
func checkRun(t *testing.T, s impl.System, x impl.Term) (bool, bool) {
	t.Helper()
	told, cells, _, ran := impl.RunProgram(s, x)
	if !keepsCells(s, cells) || !impl.Keeps(s, cells) {
		t.Errorf("RunProgram of %s does not keep the budgets: %v", textOf(x), cells)
	}
	normal, _, contracted := impl.NormalForm(x, impl.MaxContractions)
	if ran && contracted && !equalTerms(normal, told) {
		t.Errorf("%s becomes %s, and %s is told of it", textOf(x), textOf(normal), textOf(told))
	}
	return ran, ran && contracted
}

// evaluationCase says what is told, and what is booked for each variable.
type evaluationCase struct{ system, ctx, term, values, want string }

func checkEvaluations(t *testing.T, cases []evaluationCase) {
	t.Helper()
	for _, c := range cases {
		s, ctx, x, values := systemOf(t, c.system), contextOf(t, c.ctx), parsed(t, c.term), valuesOf(t, c.values)
		if c.want != "fails" && slowEvaluate(s, x, values) != c.want {
			t.Errorf("%s: the tests have %s for %s with %s, not %s", c.system, slowEvaluate(s, x, values), c.term, c.values, c.want)
		}
		if got := evaluated(t, s, ctx, x, values); got != c.want {
			t.Errorf("%s: Evaluate of %s in %q with %s is %s, not %s", c.system, c.term, c.ctx, c.values, got, c.want)
		}
	}
}

func TestRunEachWayOfLooking(t *testing.T) {
	checkRuns(t, []runCase{
		{"bound 2", "app(fun:2:n(add(x0,x0)),2)", "1 7 2/2"},
		{"bound 2", "2", "2 1"},
		{"bound 2", "add(2,2)", "1 3"},
		{"bound 2", "add(1,2)", "0 3"},
		{"bound 2", "add(add(1,1),0)", "2 5"},
		{"bound 2", "if(0,1,2)", "1 3"},
		{"bound 2", "if(1,1,2)", "2 3"},
		{"bound 2", "if(2,1,2)", "2 3"},
		{"bound 2", "if(add(1,2),1,app(fun:1:n(x0),2))", "1 5"},
		{"bound 2", "if(0,app(fun:1:n(x0),2),1)", "2 6 1/1"},
		{"bound 2", "app(fun:0:n(1),2)", "1 3 0/0"},
		{"bound 2", "app(fun:1:n(1),2)", "1 3 1/0"},
		{"bound 2", "app(fun:3:n(x0),2)", "2 4 3/1"},
		{"bound 2", "app(fun:2:n(add(x0,x0)),add(1,1))", "1 11 2/2"},
		{"bound 2", "app(fun:3:n(add(x0,add(x0,x0))),1)", "0 10 3/3"},
		{"bound 2", "app(fun:3:n(add(x0,add(x0,add(x0,x0)))),1)", "1 13 3/3"},
		{"bound 2", "app(if(0,fun:1:n(x0),fun:1:n(0)),2)", "2 6 1/1"},
		{"bound 2", "app(app(fun:1:n(fun:1:n(add(x0,x1))),1),2)", "0 9 1/1 1/1"},
		{"bound 2", "app(app(fun:1:n(fun:2:n(if(x1,x0,add(x0,x0)))),1),2)", "1 12 1/1 2/2"},
		{"bound 2", "split:1(pair(1,2),x0)", "2 4 1/0 1/1"},
		{"bound 2", "split:1(pair(1,2),x1)", "1 4 1/1 1/0"},
		{"bound 2", "split:2(pair(1,2),add(x0,add(x1,x1)))", "1 10 2/2 2/1"},
		{"bound 2", "split:2(pair(1,2),add(x1,add(x0,x0)))", "2 10 2/1 2/2"},
		{"bound 2", "split:3(if(1,pair(0,0),pair(2,box:1(1))),0)", "fails"},
		{"bound 2", "split:3(if(1,pair(0,0),pair(2,1)),0)", "0 5 3/0 3/0"},
		{"bound 2", "case:1(left:n(2),x0,0)", "2 4 1/1"},
		{"bound 2", "case:1(right:n(2),0,x0)", "2 4 1/1"},
		{"bound 2", "case:1(right:n(2),x0,0)", "0 3 1/0"},
		{"bound 2", "case:1(left:n(2),0,x0)", "0 3 1/0"},
		{"bound 2", "case:2(right:n(2),0,add(x0,x0))", "1 7 2/2"},
		{"bound 2", "case:3(left:!1.n(2),x0,open:1(x0,x0))", "2 4 3/1"},
		{"bound 2", "case:3(right:n(box:1(2)),x0,open:1(x0,x0))", "2 7 3/1 1/1"},
		{"bound 2", "open:1(box:2(1),add(x0,x0))", "2 7 2/2"},
		{"bound 2", "open:2(box:1(1),add(x0,x0))", "2 7 2/2"},
		{"bound 2", "open:2(box:2(1),x0)", "1 4 3/1"},
		{"bound 2", "open:1(box:0(1),2)", "2 3 0/0"},
		{"count 2", "open:2(box:1(1),add(x0,x0))", "fails"},
		{"count 2", "open:3(box:1(1),add(x0,x0))", "2 7 3/2"},
		{"level 2", "open:1(box:2(app(fun:1:n(x0),1)),0)", "0 3 2/0"},
	})
}

func TestRunThroughBoxes(t *testing.T) {
	checkRuns(t, []runCase{
		{"bound 2", "box:2(1)", "box:2(1) 2"},
		{"bound 2", "box:0(app(fun:1:n(x0),1))", "box:0(1) 5 0/0"},
		{"bound 2", "box:1(app(fun:1:n(x0),1))", "box:1(1) 5 1/1"},
		{"bound 2", "box:2(app(fun:1:n(x0),1))", "box:2(1) 5 2/2"},
		{"bound 2", "box:2(app(fun:2:n(add(x0,x0)),1))", "box:2(2) 8 3/3"},
		{"bound 5", "box:2(app(fun:2:n(add(x0,x0)),1))", "box:2(2) 8 4/4"},
		{"bound 5", "box:2(box:2(app(fun:1:n(x0),1)))", "box:2(box:2(1)) 6 4/4"},
		{"bound 5", "box:2(pair(app(fun:1:n(x0),1),box:2(app(fun:1:n(x0),2))))", "box:2(pair(1,box:2(2))) 11 2/2 4/4"},
		{"bound 5", "pair(box:3(app(fun:1:n(x0),1)),app(fun:1:n(x0),2))", "pair(box:3(1),2) 10 3/3 1/1"},
		{"bound 5", "left:n(box:3(app(fun:1:n(x0),1)))", "left:n(box:3(1)) 6 3/3"},
		{"bound 5", "box:3(right:n(app(fun:1:n(x0),1)))", "box:3(right:n(1)) 6 3/3"},
		{"bound 5", "box:0(box:5(app(fun:1:n(x0),1)))", "box:0(box:5(1)) 6 0/0"},
		{"bound 5", "box:5(box:0(app(fun:1:n(x0),1)))", "box:5(box:0(1)) 6 0/0"},
		// A budget is the demand at which one looks, times what the term allows.
		{"bound 5", "box:2(app(fun:2:n(x0),1))", "box:2(1) 5 4/2"},
		{"bound 5", "box:2(split:2(pair(1,2),x0))", "box:2(2) 5 4/0 4/2"},
		{"bound 5", "box:2(case:2(left:n(1),x0,x0))", "box:2(1) 5 4/2"},
		{"bound 5", "box:2(open:1(box:2(1),x0))", "box:2(1) 5 4/2"},
		{"bound 5", "box:2(open:2(box:1(1),x0))", "box:2(1) 5 4/2"},
		{"bound 12", "box:2(open:2(box:3(1),x0))", "box:2(1) 5 12/2"},
		// Boxes that are opened, and cells that look at other cells.
		{"bound 2", "box:2(open:1(box:1(1),x0))", "box:2(1) 5 2/2"},
		{"bound 5", "open:1(box:2(app(fun:1:n(x0),1)),add(x0,x0))", "2 13 2/2 1/1 1/1"},
		{"bound 5", "box:2(open:1(box:2(app(fun:1:n(x0),1)),add(x0,x0)))", "box:2(2) 14 4/4 2/2 2/2"},
		{"bound 5", "open:1(box:2(box:2(1)),open:1(x0,add(x0,x0)))", "2 10 2/1 2/2"},
		{"bound 5", "open:2(box:1(box:2(1)),open:2(x0,add(x0,x0)))", "2 10 2/2 4/2"},
		{"bound 5", "app(fun:4:!2.n(open:2(x0,box:2(x0))),box:2(1))", "box:2(1) 8 4/2 4/2"},
		{"bound 12", "box:3(app(fun:4:!2.n(open:2(x0,box:2(x0))),box:2(1)))", "box:3(box:2(1)) 9 12/6 12/6"},
		{"level 2", "box:2(app(fun:1:n(x0),1))", "box:2(1) 5 2/2"},
		{"level 2", "pair(box:2(app(fun:1:n(x0),1)),box:1(2))", "pair(box:2(1),box:1(2)) 8 2/2"},
		{"level 2", "app(fun:1:n(pair(x0,box:2(x0))),1)", "pair(1,box:2(1)) 8 1/1"},
		{"level 2", "open:1(box:2(1),box:2(x0))", "box:2(1) 5 2/2"},
		{"count 1*level 1", "box:4(app(fun:1:n(x0),1))", "box:4(1) 5 4/4"},
	})
}

func TestRunCellsThatLookAtOthers(t *testing.T) {
	checkRuns(t, []runCase{
		{"bound 2", "app(fun:2:n(app(fun:1:n(x0),add(x0,x0))),2)", "1 10 2/2 1/1"},
		{"bound 5", "app(fun:4:n(app(fun:2:n(add(x0,x0)),add(x0,x0))),2)", "2 17 4/4 2/2"},
		{"bound 2", "app(fun:2:n(app(fun:1:n(add(x0,x1)),x0)),2)", "1 10 2/2 1/1"},
		{"bound 2", "app(fun:1:n(app(fun:1:n(app(fun:1:n(x0),x0)),x0)),2)", "2 10 1/1 1/1 1/1"},
		// Each of the cells is made in another environment: that of the app, that of the pair, that of the box.
		{"bound 5", "app(fun:3:n(split:1(pair(x0,add(x0,x0)),if(x0,x1,x1))),1)", "1 14 3/3 1/1 1/1"},
		{"bound 5", "app(fun:2:n(open:1(app(fun:2:n(box:2(x0)),x0),add(x0,x0))),1)", "2 15 2/2 2/2 2/2"},
		{"bound 5", "app(fun:1:n(case:1(app(fun:1:n(left:n(add(x0,1))),x0),x0,add(x0,1))),1)", "2 12 1/1 1/1 1/1"},
		{"bound 5", "app(app(fun:2:>2.nn(fun:1:n(app(x1,app(x1,x0)))),fun:2:n(add(x0,x0))),1)", "fails"},
		{"bound 5", "app(app(fun:3:>2.nn(fun:4:n(app(x1,app(x1,x0)))),fun:2:n(add(x0,x0))),1)", "1 30 3/3 4/4 2/2 2/2 2/2"},
		{"bound 5", "app(fun:2:n(app(app(fun:1:n(fun:1:n(add(x0,x1))),x0),add(x0,1))),1)", "0 15 2/2 1/1 1/1"},
		// What is told of a pair or a sum is told in its environment.
		{"bound 2", "app(fun:1:*nn(x0),pair(add(1,1),2))", "pair(2,2) 8 1/1"},
		{"bound 2", "app(fun:2:n(pair(x0,left:n(x0))),2)", "pair(2,left:n(2)) 8 2/2"},
		{"bound 5", "app(fun:2:n(app(fun:1:*nn(x0),pair(x0,add(x0,1)))),2)", "pair(2,0) 12 2/2 1/1"},
		{"bound 5", "app(fun:3:n(app(fun:1:!3.n(x0),box:3(x0))),2)", "box:3(2) 8 3/3 1/1"},
		{"bound 5", "split:1(pair(app(fun:1:n(x0),1),2),pair(x0,right:n(x1)))", "pair(2,right:n(1)) 11 1/1 1/1 1/1"},
	})
}

func TestRunTellsAllTypes(t *testing.T) {
	checkRuns(t, []runCase{
		{"bound 2", "pair(left:!1.n(add(1,1)),box:2(right:*nn(0)))", "pair(left:!1.n(2),box:2(right:*nn(0))) 8"},
		{"bound 2", "left:+n!1.n(right:!0.*nn(pair(0,add(1,0))))", "left:+n!1.n(right:!0.*nn(pair(0,1))) 7"},
		{"bound 2", "right:!3.n(left:n(box:0(if(0,pair(1,1),pair(2,2)))))", "right:!3.n(left:n(box:0(pair(1,1)))) 8"},
		{"bound 2", "if(1,left:n(0),right:n(1))", "right:n(1) 4"},
		{"bound 2", "app(fun:1:+n!1.n(case:1(x0,right:n(x0),left:n(x0))),left:!1.n(2))", "fails"},
		{"bound 2", "app(fun:1:+n!1.n(case:1(x0,right:!1.n(x0),left:n(x0))),left:!1.n(2))", "right:!1.n(2) 8 1/1 1/1"},
		{"bound 2", "app(fun:1:+n!1.n(case:1(x0,right:!1.n(x0),left:n(x0))),right:n(box:1(2)))", "left:n(box:1(2)) 9 1/1 1/1"},
		{"bound 2", "pair(pair(0,pair(1,2)),pair(pair(2,1),0))", "pair(pair(0,pair(1,2)),pair(pair(2,1),0)) 11"},
		{"bound 2", "box:1(box:2(box:3(pair(box:0(0),1))))", "box:1(box:2(box:3(pair(box:0(0),1)))) 7"},
		{"bound 2", "left:" + power(19) + "(add(1,1))", "left:" + power(19) + "(2) 4"},
		{"bound 2", strings.Repeat("box:1(", 39) + "add(2,2)" + strings.Repeat(")", 39), strings.Repeat("box:1(", 39) + "1" + strings.Repeat(")", 39) + " 42"},
		{"bound 2", strings.Repeat("pair(add(1,1),", 19) + "0" + strings.Repeat(")", 19), strings.Repeat("pair(2,", 19) + "0" + strings.Repeat(")", 19) + " 77"},
	})
}

func TestRunInSeveralSystems(t *testing.T) {
	checkRuns(t, []runCase{
		{"count 2", "app(fun:2:n(add(x0,x0)),2)", "1 7 2/2"},
		{"count 2", "app(fun:0:n(1),2)", "1 3 0/0"},
		{"count 2", "app(fun:1:n(1),2)", "fails"},
		// If both kids do not use a variable alike, only many is a budget, and what is booked is less.
		{"count 2", "app(fun:3:n(if(x0,x0,1)),0)", "0 7 3/2"},
		{"count 2", "app(fun:3:n(if(x0,x0,1)),2)", "1 6 3/1"},
		{"count 2", "split:1(pair(1,2),add(x0,x1))", "0 7 1/1 1/1"},
		{"count 2", "split:3(pair(1,2),x0)", "2 4 3/0 3/1"},
		{"count 2", "case:1(left:n(2),x0,add(x0,1))", "2 4 1/1"},
		{"count 2", "box:2(app(fun:1:n(x0),1))", "box:2(1) 5 2/2"},
		{"count 2", "open:1(box:2(app(fun:1:n(x0),1)),add(x0,x0))", "2 13 2/2 1/1 1/1"},
		{"count 2", "app(fun:2:n(split:1(pair(x0,x0),add(x0,x1))),2)", "1 11 2/2 1/1 1/1"},
		{"bound 3", "box:3(split:1(pair(1,app(fun:1:n(x0),2)),x0))", "box:3(2) 8 3/0 3/3 3/3"},
		{"bound 3", "open:2(box:2(1),add(x0,x0))", "2 7 4/2"},
		{"level 3", "app(fun:1:n(box:2(x0)),1)", "box:2(1) 5 1/2"},
		{"level 3", "app(fun:2:n(box:3(x0)),1)", "box:3(1) 5 2/3"},
		{"level 3", "app(fun:3:n(box:2(x0)),1)", "fails"},
		{"level 3", "open:1(box:3(app(fun:1:n(x0),1)),box:3(x0))", "box:3(1) 8 3/3 3/3"},
		{"level 3", "box:2(app(fun:3:n(box:3(x0)),1))", "box:2(box:3(1)) 6 3/3"},
		{"level 3", "split:1(pair(1,2),pair(x0,box:3(x1)))", "pair(2,box:3(1)) 8 1/3 1/1"},
		{"count 1*level 1", "app(fun:5:n(add(x0,x0)),1)", "2 7 5/5"},
		{"count 1*level 1", "app(fun:1:n(add(x0,x0)),1)", "fails"},
		{"count 1*level 1", "box:4(app(fun:1:n(x0),1))", "box:4(1) 5 4/4"},
		{"bound 2*level 2", "app(fun:7:n(pair(x0,box:5(x0))),1)", "pair(1,box:5(1)) 8 7/7"},
		{"bound 2*level 2", "app(fun:8:n(box:8(x0)),2)", "box:8(2) 5 8/8"},
		{"bound 2*level 2", "box:8(app(fun:7:n(add(x0,x0)),1))", "box:8(2) 8 11/11"},
	})
}

// TestRunWhereOrderMatters looks at the system in which 2 * 3 is 3, and 3 * 2 is 2.
func TestRunWhereOrderMatters(t *testing.T) {
	checkRuns(t, []runCase{
		{"askew", "box:2(app(fun:3:n(x0),1))", "box:2(1) 5 3/2"},
		{"askew", "box:3(app(fun:2:n(box:2(x0)),1))", "box:3(box:2(1)) 6 2/2"},
		{"askew", "box:2(split:3(pair(1,2),add(x0,x1)))", "box:2(0) 8 3/2 3/2"},
		{"askew", "box:2(case:3(left:n(1),x0,x0))", "box:2(1) 5 3/2"},
		{"askew", "box:2(case:3(right:n(1),x0,x0))", "box:2(1) 5 3/2"},
		{"askew", "box:2(open:3(box:1(1),x0))", "box:2(1) 5 3/2"},
		{"askew", "box:2(open:1(box:3(1),x0))", "box:2(1) 5 3/2"},
		{"askew", "box:2(open:3(box:2(1),box:2(x0)))", "box:2(box:2(1)) 6 2/2"},
		{"askew", "box:3(open:1(box:2(1),box:2(x0)))", "box:3(box:2(1)) 6 2/2"},
		{"askew", "box:2(box:3(app(fun:1:n(x0),1)))", "box:2(box:3(1)) 6 3/3"},
		{"askew", "box:3(box:2(app(fun:1:n(x0),1)))", "box:3(box:2(1)) 6 2/2"},
	})
	checkEvaluations(t, []evaluationCase{
		{"askew", "n", "box:2(box:3(x0))", "1", "box:2(box:3(1)) 3"},
		{"askew", "n", "box:3(box:2(x0))", "1", "box:3(box:2(1)) 2"},
		{"askew", "*nn", "box:2(split:3(x0,add(x0,x1)))", "pair(2,2)", "box:2(1) 3"},
		{"askew", "*nn", "box:3(split:0(x0,0))", "pair(2,2)", "box:3(0) 0"},
		{"askew", "+nn", "box:2(case:3(x0,x0,x0))", "right:n(2)", "box:2(2) 3"},
		{"askew", "!1.n", "box:2(open:3(x0,x0))", "box:1(2)", "box:2(2) 3"},
		{"askew", "n", "box:2(app(fun:3:n(x0),x0))", "2", "box:2(2) 2"},
		{"askew", "n", "box:2(open:1(box:3(x0),x0))", "2", "box:2(2) 2"},
		{"askew", "!3.n", "box:2(open:1(x0,box:3(x0)))", "box:3(2)", "box:2(box:3(2)) 2"},
		{"level 1*askew", "n", "box:7(box:6(x0))", "1", "box:7(box:6(1)) 6"},
	})
}

func TestEvaluateEachWayOfLooking(t *testing.T) {
	checkEvaluations(t, []evaluationCase{
		{"bound 2", "n n", "if(x1,add(x0,x0),x0)", "2 1", "2 1 1"},
		{"bound 2", "n n", "if(x1,add(x0,x0),x0)", "2 0", "1 2 1"},
		{"bound 2", "", "add(1,1)", "", "2"},
		{"bound 2", "n", "1", "2", "1 0"},
		{"bound 2", "n n n", "x1", "0 1 2", "1 0 1 0"},
		{"bound 5", "n n", "box:2(add(x0,add(x1,x1)))", "1 2", "box:2(2) 2 4"},
		{"bound 5", "n n n", "box:2(if(x0,x1,x2))", "0 1 2", "box:2(1) 2 2 0"},
		{"bound 5", "n n n", "box:2(if(x0,x1,x2))", "2 1 2", "box:2(2) 2 0 2"},
		{"bound 5", "n n", "box:2(app(if(x0,fun:2:n(add(x0,x0)),fun:2:n(0)),x1))", "0 1", "box:2(2) 2 4"},
		{"bound 5", "n n", "box:2(app(if(x0,fun:2:n(add(x0,x0)),fun:2:n(0)),x1))", "1 1", "box:2(0) 2 0"},
		{"bound 5", "*nn", "split:3(x0,x1)", "pair(2,1)", "2 3"},
		{"bound 5", "*nn", "split:3(x0,x0)", "pair(2,1)", "1 3"},
		{"bound 5", "+nn n", "case:3(x0,x2,add(x0,x2))", "left:n(2) 1", "1 3 1"},
		{"bound 5", "+nn n", "case:3(x0,x2,add(x0,x2))", "right:n(2) 1", "0 3 1"},
		{"bound 5", "!2.n n", "open:3(x0,add(x2,add(x0,x0)))", "box:2(2) 2", "0 3 1"},
		{"bound 5", "n n", "pair(x1,pair(x0,x1))", "1 2", "pair(2,pair(1,2)) 1 2"},
		{"bound 5", "n n", "left:n(pair(box:3(x0),x1))", "1 2", "left:n(pair(box:3(1),2)) 3 1"},
		{"bound 5", "n", "app(fun:2:n(add(x0,x0)),add(x0,x0))", "1", "1 4"},
		{"bound 5", "n", "app(fun:5:n(0),add(x0,x0))", "1", "0 0"},
		{"bound 5", "n", "box:0(x0)", "2", "box:0(2) 0"},
		{"count 2", "n", "if(x0,0,0)", "2", "0 1"},
		{"count 2", "n n", "add(x0,add(x0,add(x0,x1)))", "1 2", "2 3 1"},
		{"level 2", "n n", "pair(box:2(x0),pair(x1,box:2(x1)))", "1 2", "pair(box:2(1),pair(2,box:2(2))) 2 1"},
		// Values of each kind of data type, with a value of another one beside it.
		{"bound 2", "n *nn +n!1.n !2.n", "pair(x0,pair(x1,pair(x2,x3)))", "2 pair(0,1) right:n(box:1(2)) box:2(1)", "pair(2,pair(pair(0,1),pair(right:n(box:1(2)),box:2(1)))) 1 1 1 1"},
		{"bound 2", "!2.+nn n", "pair(x1,open:1(x0,pair(x0,x0)))", "box:2(left:n(2)) 0", "pair(0,pair(left:n(2),left:n(2))) 1 1"},
		{"bound 2", "n n n n n n n n", "pair(x7,pair(x0,x3))", "0 1 2 0 1 2 0 1", "pair(1,pair(0,0)) 1 0 0 1 0 0 0 1"},
		{"bound 2", power(6) + " n", "split:1(x0,x1)", "pair(2,pair(0,pair(0,pair(0,pair(0,0))))) 1", "2 1 0"},
		{"bound 2", "n " + power(20), "pair(x0,0)", "2 " + strings.Repeat("pair(1,", 19) + "2" + strings.Repeat(")", 19), "pair(2,0) 1 0"},
	})
}

// program is a term of a data type without variables, with the system in which it was made.
type program struct {
	s  impl.System
	t  impl.Term
	ty []int
}

// madePrograms are programs of many systems, counts, bounds, levels and products among them.
func madePrograms(t *testing.T, each int) []program {
	t.Helper()
	systems := slices.Sorted(maps.Keys(goodSystems()))
	var all []program
	for _, name := range append(systems, "bound 2*level 2", "count 2*bound 1", "level 15", "bound 14") {
		m := newTypedMaker(systemOf(t, name))
		for i := range each {
			x, ty := m.makeData(nil, 8+i%60)
			all = append(all, program{s: m.s, t: x, ty: ty})
		}
	}
	return all
}

func TestRunMadePrograms(t *testing.T) {
	ran, cells, contracted := 0, 0, 0
	for _, p := range madePrograms(t, 80) {
		want := slowRun(p.s, p.t)
		if got := run(t, p.s, p.t); got != want {
			t.Fatalf("RunProgram of %s is %s, not %s", textOf(p.t), got, want)
		}
		told, made, _, _ := impl.RunProgram(p.s, p.t)
		hasRun, hasNormal := checkRun(t, p.s, p.t)
		if hasRun {
			ran++
			cells += len(made)
			if !slowIsValue(p.s.Size, p.ty, told) {
				t.Fatalf("%s is told of %s, which has the type %s", textOf(told), textOf(p.t), typeText(p.ty))
			}
		}
		if hasNormal {
			contracted++
		}
	}
	if ran < 1500 || cells < 2500 || contracted < 1500 {
		t.Errorf("only %d programs ran, with %d cells; %d had a normal form", ran, cells, contracted)
	}
}

// applied returns the function applied to the values, of which the last one comes first, as CloseTerm has it.
func applied(f impl.Term, values []impl.Term) impl.Term {
	for _, v := range slices.Backward(values) {
		f = leastTerm(impl.TmApp, f, v)
	}
	return f
}

// TestEvaluateMadeTerms holds what is booked against the needs of the variables, too, and against the cells of the
// closed term.
func TestEvaluateMadeTerms(t *testing.T) {
	evaluations, closings := 0, 0
	for _, name := range slices.Sorted(maps.Keys(goodSystems())) {
		m := newTypedMaker(systemOf(t, name))
		for i := range 100 {
			ctx := m.dataContext(4)
			x, ty := m.makeData(ctx, 8+i%50)
			var values []impl.Term
			for _, of := range ctx {
				values = append(values, madeValue(m.r, of))
			}
			want := slowEvaluate(m.s, x, values)
			if got := evaluated(t, m.s, ctx, x, values); got != want {
				t.Fatalf("%s: Evaluate of %s is %s, not %s", name, textOf(x), got, want)
			}
			told, booked, ok := impl.Evaluate(m.s, ctx, x, values)
			if !ok {
				continue
			}
			evaluations++
			needs := slowFind(m.s, ctx, x).needs
			for j, g := range booked {
				if !m.s.Below[g*m.s.Size+needs[j]] {
					t.Fatalf("%s: Evaluate of %s books %v, which needs %v", name, textOf(x), booked, needs)
				}
			}
			closed, ok := impl.CloseTerm(m.s, ctx, needs, x)
			if !ok || len(ctx) == 0 || sizeOf(applied(closed, values)) > 400 {
				continue
			}
			closings++
			ran, cells, _, _ := impl.RunProgram(m.s, applied(closed, values))
			if !equalTerms(ran, told) || !slowIsValue(m.s.Size, ty, told) {
				t.Fatalf("%s: the function of %s does not lead to %s", name, textOf(x), textOf(told))
			}
			for j := range booked {
				if c := cells[len(booked)-1-j]; c.Booked != booked[j] || c.Budget != needs[j] {
					t.Fatalf("%s: Evaluate of %s books %v, and RunProgram %v", name, textOf(x), booked, cells)
				}
			}
		}
	}
	if evaluations < 1000 || closings < 500 {
		t.Errorf("only %d terms were evaluated, and %d closed", evaluations, closings)
	}
}

// TestMostLooks finds the limit where the last look is one that looks further, and where it is one that tells.
func TestMostLooks(t *testing.T) {
	if impl.MaxLooks != 3000 {
		t.Errorf("MaxLooks is %d", impl.MaxLooks)
	}
	s := impl.BoundSystem(2)
	check := func(looks int, text string) {
		t.Helper()
		_, _, got, ok := impl.RunProgram(s, parsed(t, text))
		if want := looks <= 3000; ok != want || ok && got != looks || !ok && got != 0 {
			t.Errorf("RunProgram takes %d looks, not %d, %v, at %s", got, looks, ok, text)
		}
		told, booked, ok := impl.Evaluate(s, nil, parsed(t, text), nil)
		if ok != (looks <= 3000) || ok == isZeroTerm(told) || len(booked) > 0 {
			t.Errorf("Evaluate is %v, %v, %v at %s, with %d looks", told, booked, ok, text, looks)
		}
		if table, ok := impl.TableOf(s, nil, parsed(t, text)); ok != (looks <= 3000) || ok != (len(table) == 1) {
			t.Errorf("TableOf is %v, %v at %s, with %d looks", table, ok, text, looks)
		}
	}
	for _, looks := range []int{1, 3, 4, 5, 6, 7, 8, 9, 10, 11, 100, 1531, 2998, 2999, 3000, 3001, 3002, 3003, 4000, 6000, 6001, 100000, 1 << 30} {
		check(looks, looking(looks))
		check(looks+1, "box:2("+looking(looks)+")")
		check(looks+2, "left:*nn(right:n("+looking(looks)+"))")
		check(looks+2, "pair("+looking(looks)+",1)")
		check(looks+2, "pair(1,"+looking(looks)+")")
		check(looks+3, "pair("+looking(looks)+",box:1(1))")
		check(looks+5, "left:n(pair(pair(1,"+looking(looks)+"),0))")
		// Each way of looking has a look that may be the one too many.
		check(looks+2, "add(1,"+looking(looks)+")")
		check(looks+2, "add("+looking(looks)+",1)")
		check(looks+2, "if("+looking(looks)+",1,1)")
		check(looks+2, "if(0,"+looking(looks)+",1)")
		check(looks+2, "if(1,1,"+looking(looks)+")")
		check(looks+2, "app(fun:0:n("+looking(looks)+"),1)")
		check(looks+4, "app(if("+looking(looks)+",fun:0:n(1),fun:0:n(1)),1)")
		check(looks+3, "app(fun:1:n(x0),"+looking(looks)+")")
		check(looks+2, "split:1(pair(1,1),"+looking(looks)+")")
		check(looks+4, "split:1(if("+looking(looks)+",pair(1,1),pair(1,1)),1)")
		check(looks+3, "split:1(pair(1,"+looking(looks)+"),x0)")
		check(looks+2, "case:1(left:n(1),"+looking(looks)+",1)")
		check(looks+2, "case:1(right:n(1),1,"+looking(looks)+")")
		check(looks+4, "case:1(if("+looking(looks)+",left:n(1),right:n(1)),1,1)")
		check(looks+2, "open:1(box:1(1),"+looking(looks)+")")
		check(looks+4, "open:1(if("+looking(looks)+",box:1(1),box:1(1)),1)")
	}
}

// TestFarTooManyLooks looks at terms that take more looks than could ever be counted one by one.
func TestFarTooManyLooks(t *testing.T) {
	s := impl.BoundSystem(2)
	for _, times := range []int{9, 10, 20, 60, 64, 79} {
		x := parsed(t, doubling(times, "1"))
		if got := run(t, s, x); got != "fails" && times > 9 {
			t.Errorf("RunProgram of %d doublings is %s", times, got)
		}
		y := parsed(t, doubling(times, "x0"))
		for _, v := range []string{"0", "1", "2"} {
			if got := evaluated(t, s, [][]int{{0}}, y, valuesOf(t, v)); got != "fails" && times > 8 {
				t.Errorf("Evaluate of %d doublings is %s", times, got)
			}
		}
		if got := table(t, s, [][]int{{0}}, y); got != "fails" && times > 8 {
			t.Errorf("TableOf of %d doublings is %s", times, got)
		}
	}
	// What is not looked at takes no looks.
	checkRuns(t, []runCase{
		{"bound 2", "if(0,1," + doubling(60, "1") + ")", "1 3"},
		{"bound 2", "app(fun:0:n(2)," + doubling(60, "1") + ")", "2 3 0/0"},
		{"bound 2", "split:1(pair(1," + doubling(60, "1") + "),x1)", "1 4 1/1 1/0"},
		{"bound 2", "if(" + doubling(60, "1") + ",1,1)", "fails"},
		{"bound 2", "box:0(" + doubling(60, "1") + ")", "fails"},
		{"bound 2", "pair(1," + doubling(60, "1") + ")", "fails"},
		{"bound 2", "pair(" + doubling(60, "1") + ",1)", "fails"},
	})
}

// noPrograms have no type, or none that is a data type; the reason is the key.
func noPrograms() map[string]string {
	return map[string]string{
		"a variable":            "x0",
		"a variable within":     "add(1,x0)",
		"a function":            "fun:1:n(x0)",
		"a function in a pair":  "pair(0,fun:1:n(x0))",
		"a function in a box":   "box:1(fun:1:n(x0))",
		"a function in a sum":   "left:n(fun:1:n(x0))",
		"a sum with an arrow":   "right:>1.nn(0)",
		"a function is told":    "app(fun:1:n(fun:1:n(x0)),1)",
		"a fault, number":       "add(box:1(0),1)",
		"a fault, same":         "if(0,1,box:1(1))",
		"a fault not looked at": "if(0,1,add(1,pair(1,1)))",
		"a fault, need":         "app(fun:1:n(add(x0,x0)),1)",
		"a fault, grade":        "split:0(pair(1,1),1)",
		"an open grade":         "app(fun:?:n(x0),1)",
		"an open box":           "box:?(1)",
		"an open type":          "left:!?.n(1)",
		"a grade of another":    "box:4(1)",
		"a type of another":     "left:!4.n(1)",
		"type too long":         "pair(" + strings.Repeat("box:1(", 39) + "1" + strings.Repeat(")", 39) + ",1)",
	}
}

func TestRunOfWhatIsNoProgram(t *testing.T) {
	s := impl.BoundSystem(2)
	for reason, text := range noPrograms() {
		x := parsed(t, text)
		if got := run(t, s, x); got != "fails" {
			t.Errorf("RunProgram of %s (%s) is %s", text, reason, got)
		}
		if got := evaluated(t, s, nil, x, nil); got != "fails" {
			t.Errorf("Evaluate of %s (%s) is %s", text, reason, got)
		}
		if got := table(t, s, nil, x); got != "fails" {
			t.Errorf("TableOf of %s (%s) is %s", text, reason, got)
		}
	}
	for reason, x := range badTerms() {
		for _, y := range []impl.Term{x, leastTerm(impl.TmAdd, numberTerm(0), x), leastTerm(impl.TmIf, numberTerm(0), numberTerm(1), x)} {
			if got := run(t, s, y); got != "fails" {
				t.Errorf("%s: RunProgram is %s", reason, got)
			}
			if got := evaluated(t, s, [][]int{{0}}, y, []impl.Term{numberTerm(1)}); got != "fails" {
				t.Errorf("%s: Evaluate is %s", reason, got)
			}
			if got := table(t, s, [][]int{{0}}, y); got != "fails" {
				t.Errorf("%s: TableOf is %s", reason, got)
			}
			if d, ok := impl.DependsOn(s, [][]int{{0}}, y, 0); d || ok {
				t.Errorf("%s: DependsOn succeeds", reason)
			}
		}
	}
	for name, bad := range badSystems() {
		for _, text := range []string{"1", "app(fun:1:n(x0),1)", "box:0(1)"} {
			x := parsed(t, text)
			if got := run(t, bad, x) + evaluated(t, bad, nil, x, nil) + table(t, bad, nil, x); got != strings.Repeat("fails", 3) {
				t.Errorf("%s: %s leads to %s", name, text, got)
			}
			if got := evaluated(t, bad, [][]int{{0}}, x, []impl.Term{numberTerm(1)}); got != "fails" {
				t.Errorf("%s: Evaluate of %s is %s", name, text, got)
			}
		}
	}
}

func TestEvaluateOfOtherValues(t *testing.T) {
	s := impl.BoundSystem(2)
	for _, c := range []struct{ ctx, values string }{
		{"", "0"},
		{"n", ""},
		{"n", "0 0"},
		{"n n", "0"},
		{"n n", "0 0 0"},
		{"n", "box:1(0)"},
		{"n", "x0"},
		{"n", "add(0,0)"},
		{"n", "fun:1:n(x0)"},
		{"n n", "0 pair(0,0)"},
		{"n *nn", "pair(0,0) 0"},
		{"*nn", "pair(0,x0)"},
		{"*nn", "pair(0,pair(0,0))"},
		{"*n!1.n", "pair(box:1(0),0)"},
		{"!1.n", "0"},
		{"!1.n", "box:2(0)"},
		{"!1.n", "box:?(0)"},
		{"!1.n", "box:1(add(0,0))"},
		{"+n!1.n", "left:n(0)"},
		{"+n!1.n", "right:!1.n(0)"},
		{"+n!1.n", "right:n(0)"},
		{"+n!1.n", "left:!2.n(0)"},
		{"n n n n n n n n", "0 0 0 0 0 0 0"},
		{"n n n n n n n n", "0 0 0 0 0 0 0 0 0"},
		{power(6), "pair(0,pair(0,pair(0,pair(0,0))))"},
	} {
		ctx := contextOf(t, c.ctx)
		for _, text := range []string{"1", "box:0(2)"} {
			if got := evaluated(t, s, ctx, parsed(t, text), valuesOf(t, c.values)); got != "fails" {
				t.Errorf("Evaluate of %s in %q with %q is %s", text, c.ctx, c.values, got)
			}
		}
	}
	for reason, bad := range badTerms() {
		for _, values := range [][]impl.Term{{bad}, {numberTerm(0), bad}, {leastTerm(impl.TmPair, numberTerm(0), bad)}} {
			ctx := [][]int{{0}, {0}}[:len(values)]
			if len(values[0].Kids) == 2 && values[0].Op == impl.TmPair {
				ctx = [][]int{{1, 0, 0}}
			}
			if got := evaluated(t, s, ctx, numberTerm(1), values); got != "fails" {
				t.Errorf("%s: Evaluate is %s", reason, got)
			}
		}
	}
	if got := evaluated(t, s, [][]int{{0}}, numberTerm(1), make([]impl.Term, 1000000)); got != "fails" {
		t.Errorf("Evaluate with a million values is %s", got)
	}
}

func TestEvaluateInOtherContexts(t *testing.T) {
	s := impl.BoundSystem(2)
	zero := numberTerm(0)
	function := leastTerm(impl.TmFun, variableTerm(0))
	for reason, ctx := range badContexts() {
		values := slices.Repeat([]impl.Term{zero}, min(len(ctx), 9))
		for _, text := range []string{"1", "x0"} {
			if got := evaluated(t, s, ctx, parsed(t, text), values); got != "fails" {
				t.Errorf("%s: Evaluate is %s", reason, got)
			}
			if got := table(t, s, ctx, parsed(t, text)); got != "fails" {
				t.Errorf("%s: TableOf is %s", reason, got)
			}
			if d, ok := impl.DependsOn(s, ctx, parsed(t, text), 0); d || ok {
				t.Errorf("%s: DependsOn succeeds", reason)
			}
		}
	}
	// Contexts in which terms have types, but not with data types alone.
	for _, c := range []struct {
		ctx    string
		values []impl.Term
	}{
		{">1.nn", []impl.Term{function}},
		{"n >1.nn", []impl.Term{zero, function}},
		{">1.nn n", []impl.Term{function, zero}},
		{"n +n>1.nn", []impl.Term{zero, {Op: impl.TmLeft, Type: []int{4, 0, 0}, Kids: []impl.Term{zero}}}},
		{"n !0.>0.nn", []impl.Term{zero, {Op: impl.TmBox, Kids: []impl.Term{{Op: impl.TmFun, Type: []int{0}, Kids: []impl.Term{zero}}}}}},
	} {
		ctx := contextOf(t, c.ctx)
		for _, text := range []string{"1", "box:0(2)"} {
			if got := evaluated(t, s, ctx, parsed(t, text), c.values); got != "fails" {
				t.Errorf("Evaluate of %s in %s is %s", text, c.ctx, got)
			}
			if got := table(t, s, ctx, parsed(t, text)); got != "fails" {
				t.Errorf("TableOf of %s in %s is %s", text, c.ctx, got)
			}
			for i := range ctx {
				if d, ok := impl.DependsOn(s, ctx, parsed(t, text), i); d || ok {
					t.Errorf("DependsOn of %s in %s succeeds", text, c.ctx)
				}
			}
		}
	}
	// Terms that have no type in the context, or none that is a data type.
	checkEvaluations(t, []evaluationCase{
		{"bound 2", "n", "x1", "0", "fails"},
		{"bound 2", "n !1.n", "add(x0,x1)", "0 box:1(0)", "fails"},
		{"bound 2", "n", "fun:1:n(x1)", "0", "fails"},
		{"bound 2", "n", "pair(x0,fun:1:n(x0))", "0", "fails"},
		{"bound 2", "n", "left:>1.nn(x0)", "0", "fails"},
		{"bound 2", "n", "app(fun:?:n(x0),x0)", "0", "fails"},
		{"count 1", "n", "split:1(pair(0,x0),x1)", "0", "fails"},
		{"level 1", "!2.n", "0", "box:2(0)", "fails"},
	})
}

// TestMachineChangesNoArgument looks at what the functions are handed, and at the memory of what they return.
func TestMachineChangesNoArgument(t *testing.T) {
	r := rand.New(rand.NewSource(9))
	for _, p := range madePrograms(t, 12) {
		keepsTerms(t, "RunProgram", func(l []impl.Term) []impl.Term {
			told, _, _, _ := impl.RunProgram(p.s, l[0])
			return []impl.Term{told}
		}, p.t)
	}
	m := newTypedMaker(impl.BoundSystem(2))
	for i := range 300 {
		ctx := m.dataContext(3)
		x, _ := m.makeData(ctx, 8+i%40)
		args := []impl.Term{x}
		for _, ty := range ctx {
			args = append(args, madeValue(r, ty))
		}
		wide := wideContext(ctx)
		keepsTerms(t, "Evaluate", func(l []impl.Term) []impl.Term {
			told, booked, _ := impl.Evaluate(m.s, wide, l[0], l[1:])
			for j := range booked[:cap(booked)] {
				booked[:cap(booked)][j] = -9
			}
			impl.TableOf(m.s, wide, l[0])
			impl.DependsOn(m.s, wide, l[0], i%3)
			return []impl.Term{told}
		}, args...)
		if !keptContext(wide, ctx) {
			t.Fatalf("Evaluate of %s changes the context", textOf(x))
		}
	}
	unchanged(t, "a function of the machine", impl.BoundSystem(2), func(s impl.System) {
		x := parsed(t, "box:2(app(fun:2:n(add(x0,x0)),x0))")
		impl.RunProgram(s, x.Kids[0].Kids[0].Kids[0])
		impl.RunProgram(s, parsed(t, "box:2(app(fun:2:n(add(x0,x0)),1))"))
		impl.Evaluate(s, [][]int{{0}}, x, []impl.Term{numberTerm(1)})
		impl.TableOf(s, [][]int{{0}}, x)
		impl.DependsOn(s, [][]int{{0}}, x, 0)
		impl.Keeps(s, []impl.Cell{{Budget: 2, Booked: 1}})
	})
}

// TestToldSharesNoMemory looks at values that are told of terms that share their memory, and twice of one cell.
func TestToldSharesNoMemory(t *testing.T) {
	s := impl.BoundSystem(5)
	shared := impl.Term{Op: impl.TmLeft, Type: []int{20, 0}, Kids: []impl.Term{leastTerm(impl.TmPair, numberTerm(1), numberTerm(2))}}
	ty := []int{2, 1, 0, 0, 20, 0}
	for name, x := range map[string]impl.Term{
		"one term twice": leastTerm(impl.TmPair, shared, shared),
		"one cell twice": leastTerm(impl.TmApp, impl.Term{Op: impl.TmFun, N: 2, Type: ty, Kids: []impl.Term{leastTerm(impl.TmPair, variableTerm(0), variableTerm(0))}}, shared),
	} {
		told, _, _, ok := impl.RunProgram(s, x)
		if !ok || textOf(told) != "pair(left:!1.n(pair(1,2)),left:!1.n(pair(1,2)))" {
			t.Errorf("%s: RunProgram is %s, %v", name, textOf(told), ok)
		}
		scribbleAndLook(t, name, told)
	}
	if len(shared.Type) != 2 || shared.Type[0] != 20 || shared.Kids[0].Kids[1].N != 2 {
		t.Errorf("what is told shares memory with the program")
	}
	value := copyOfTerm(shared)
	told, _, ok := impl.Evaluate(s, [][]int{ty}, leastTerm(impl.TmPair, variableTerm(0), variableTerm(0)), []impl.Term{value})
	if !ok {
		t.Error("Evaluate fails")
	}
	scribbleAndLook(t, "one value twice", told)
	if !equalTerms(value, shared) {
		t.Errorf("what is told shares memory with a value")
	}
}

func scribbleAndLook(t *testing.T, name string, x impl.Term) {
	t.Helper()
	scribble(&x, 1000)
	if scribbled(x, 1000) < 0 {
		t.Errorf("%s: what is told shares memory within", name)
	}
}
