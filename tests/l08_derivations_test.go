package tests

import (
	"reflect"
	"slices"
	"strings"
	"testing"

	"loop.example/g03111/impl"
)

func TestDerive(t *testing.T) {
	for _, c := range []struct{ system, ctx, term, want string }{
		{"bound 2", "n", "add(1,x0)", "n|0|1|n|;n|1|x0|n|;n|1|add(1,x0)|n|0 1"},
		{"bound 2", "", "2", "||2|n|"},
		{"bound 2", "n n", "2", "n n|0 0|2|n|"},
		{"bound 2", "n !1.n", "x1", "n !1.n|0 1|x1|!1.n|"},
		{"bound 2", "n", "add(x0,x0)", "n|1|x0|n|;n|1|x0|n|;n|2|add(x0,x0)|n|0 1"},
		{"count 1", "n", "add(x0,x0)", "n|1|x0|n|;n|1|x0|n|;n|2|add(x0,x0)|n|0 1"},
		{"level 2", "n", "add(x0,x0)", "n|1|x0|n|;n|1|x0|n|;n|1|add(x0,x0)|n|0 1"},
		{"bound 2", "n", "add(add(x0,1),add(2,x0))", "n|1|x0|n|;n|0|1|n|;n|1|add(x0,1)|n|0 1;n|0|2|n|;n|1|x0|n|;n|1|add(2,x0)|n|3 4;n|2|add(add(x0,1),add(2,x0))|n|2 5"},
		{"bound 2", "", "add(1,add(1,add(1,1)))", "||1|n|;||1|n|;||1|n|;||1|n|;||add(1,1)|n|2 3;||add(1,add(1,1))|n|1 4;||add(1,add(1,add(1,1)))|n|0 5"},
		{"bound 2", "", "add(add(add(1,1),1),1)", "||1|n|;||1|n|;||add(1,1)|n|0 1;||1|n|;||add(add(1,1),1)|n|2 3;||1|n|;||add(add(add(1,1),1),1)|n|4 5"},
		{"bound 2", "n n n", "if(x0,x1,x2)", "n n n|1 0 0|x0|n|;n n n|0 1 0|x1|n|;n n n|0 0 1|x2|n|;n n n|1 1 1|if(x0,x1,x2)|n|0 1 2"},
		{"count 2", "n n", "if(x0,x1,x0)", "n n|1 0|x0|n|;n n|0 1|x1|n|;n n|1 0|x0|n|;n n|3 3|if(x0,x1,x0)|n|0 1 2"},
		{"bound 2", "", "if(0,add(1,1),2)", "||0|n|;||1|n|;||1|n|;||add(1,1)|n|1 2;||2|n|;||if(0,add(1,1),2)|n|0 3 4"},
		{"bound 2", "n !1.n", "pair(x1,x0)", "n !1.n|0 1|x1|!1.n|;n !1.n|1 0|x0|n|;n !1.n|1 1|pair(x1,x0)|*!1.nn|0 1"},
		{"bound 2", "*n!1.n", "split:2(x0,x1)", "*n!1.n|1|x0|*n!1.n|;!1.n n *n!1.n|0 1 0|x1|n|;*n!1.n|2|split:2(x0,x1)|n|0 1"},
		{"bound 2", "", "split:1(pair(1,2),add(x0,x1))", "||1|n|;||2|n|;||pair(1,2)|*nn|0 1;n n|1 0|x0|n|;n n|0 1|x1|n|;n n|1 1|add(x0,x1)|n|3 4;||split:1(pair(1,2),add(x0,x1))|n|2 5"},
		{"bound 2", "n", "left:!1.n(x0)", "n|1|x0|n|;n|1|left:!1.n(x0)|+n!1.n|0"},
		{"bound 2", "n", "right:!1.n(x0)", "n|1|x0|n|;n|1|right:!1.n(x0)|+!1.nn|0"},
		{"bound 2", "+n!1.n", "case:1(x0,x0,2)", "+n!1.n|1|x0|+n!1.n|;n +n!1.n|1 0|x0|n|;!1.n +n!1.n|0 0|2|n|;+n!1.n|1|case:1(x0,x0,2)|n|0 1 2"},
		{"bound 2", "n", "fun:1:!1.n(x1)", "!1.n n|0 1|x1|n|;n|1|fun:1:!1.n(x1)|>1.!1.nn|0"},
		{"bound 2", "", "fun:1:n(fun:2:!1.n(x1))", "!1.n n|0 1|x1|n|;n|1|fun:2:!1.n(x1)|>2.!1.nn|0;||fun:1:n(fun:2:!1.n(x1))|>1.n>2.!1.nn|1"},
		{"bound 5", ">3.nn n", "app(x0,x1)", ">3.nn n|1 0|x0|>3.nn|;>3.nn n|0 1|x1|n|;>3.nn n|1 3|app(x0,x1)|n|0 1"},
		{"bound 2", "n", "app(fun:2:n(add(x0,x0)),x0)", "n n|1 0|x0|n|;n n|1 0|x0|n|;n n|2 0|add(x0,x0)|n|0 1;n|0|fun:2:n(add(x0,x0))|>2.nn|2;n|1|x0|n|;n|2|app(fun:2:n(add(x0,x0)),x0)|n|3 4"},
		{"bound 2", "n", "box:2(x0)", "n|1|x0|n|;n|2|box:2(x0)|!2.n|0"},
		{"bound 2", "n", "box:0(x0)", "n|1|x0|n|;n|0|box:0(x0)|!0.n|0"},
		{"bound 2", "!1.!2.n", "open:1(x0,open:1(x0,x0))", "!1.!2.n|1|x0|!1.!2.n|;!2.n !1.!2.n|1 0|x0|!2.n|;n !2.n !1.!2.n|1 0 0|x0|n|;!2.n !1.!2.n|1 0|open:1(x0,x0)|n|1 2;!1.!2.n|1|open:1(x0,open:1(x0,x0))|n|0 3"},
		{"bound 2", "n n n n n n n n", "x7", "n n n n n n n n|0 0 0 0 0 0 0 1|x7|n|"},
		{"bound 2", "n n n n n n n n", "fun:1:!1.n(x8)", "!1.n n n n n n n n n|0 0 0 0 0 0 0 0 1|x8|n|;n n n n n n n n|0 0 0 0 0 0 0 1|fun:1:!1.n(x8)|>1.!1.nn|0"},
		{"bound 2", "n", "x1", "fails"},
		{"bound 2", "!1.n", "add(x0,1)", "fails"},
		{"bound 2", "n", "pair(x0,add(box:1(x0),1))", "fails"},
		{"bound 2", "", "fun:0:n(x0)", "fails"},
		{"bound 2", "", "box:?(1)", "fails"},
		{"bound 2", "", "box:4(1)", "fails"},
		{"bound 2", "!4.n", "1", "fails"},
		{"bound 2", "!?.n", "1", "fails"},
		{"bound 2", "n n n n n n n n n", "1", "fails"},
	} {
		s, ctx, x := systemOf(t, c.system), contextOf(t, c.ctx), parsed(t, c.term)
		if got := derived(t, s, ctx, x); got != c.want {
			t.Errorf("%s: Derive of %s in %q is %s, not %s", c.system, c.term, c.ctx, got, c.want)
		}
	}
}

func TestIsJudgment(t *testing.T) {
	for _, c := range []struct {
		system, judgment string
		want             bool
	}{
		{"bound 2", "||1|n|", true},
		{"bound 2", "n|1|x0|n|", true},
		{"bound 2", "n !2.n|3 0|add(x0,x1)|n|", true},
		// It need not be true.
		{"bound 2", "n|0|x0|n|", true},
		{"bound 2", "n|0|x0|>1.n!0.n|", true},
		{"bound 2", "n|0|app(x0,x0)|+nn|", true},
		{"bound 2", "n|1|split:0(1,box:3(x2))|n|", true},
		// Whatever From is, it is of no moment.
		{"bound 2", "n|1|x0|n|0", true},
		{"bound 2", "n|1|x0|n|-1 7 7 1000000", true},
		{"bound 2", "n|1|add(x0,x0)|n|", true},
		{"bound 2", "n|1|add(x0,x0)|n|0 0 0", true},
		{"bound 2", "n n|1|x0|n|", false},
		{"bound 2", "n|1 1|x0|n|", false},
		{"bound 2", "n||x0|n|", false},
		{"bound 2", "|0|1|n|", false},
		{"bound 2", "n n n|0 0 4|x0|n|", false},
		{"bound 2", "n n n|0 0 3|x0|n|", true},
		{"bound 2", "n n n|0 -1 0|x0|n|", false},
		{"bound 5", "n n n|0 0 6|x0|n|", true},
		{"bound 5", "n n n|0 7 0|x0|n|", false},
		{"bound 2", "n|1|x1|n|", false},
		{"bound 2", "n n|1 1|x1|n|", true},
		{"bound 2", "n n|1 1|fun:1:n(x2)|n|", true},
		{"bound 2", "n n|1 1|fun:1:n(x3)|n|", false},
		{"bound 2", "||x0|n|", false},
		{"bound 2", "n|1|box:3(x0)|n|", true},
		{"bound 2", "n|1|box:4(x0)|n|", false},
		{"bound 2", "n|1|box:?(x0)|n|", false},
		{"bound 2", "n|1|fun:1:!4.n(x0)|n|", false},
		{"bound 2", "n|1|fun:1:!?.n(x0)|n|", false},
		{"bound 2", "n|1|left:>?.nn(x0)|n|", false},
		{"bound 2", "n|1|x0|!3.n|", true},
		{"bound 2", "n|1|x0|!4.n|", false},
		{"bound 2", "n|1|x0|!?.n|", false},
		{"bound 2", "n|1|x0|>?.nn|", false},
		{"bound 2", "n !3.n|1 0|x0|n|", true},
		{"bound 2", "n !4.n|1 0|x0|n|", false},
		{"bound 2", "n >?.nn|1 0|x0|n|", false},
		{"level 15", "n >15.nn|1 15|box:15(x0)|!15.n|", true},
	} {
		s, j := systemOf(t, c.system), judgmentOf(t, c.judgment)
		if got := impl.IsJudgment(s, j); got != c.want {
			t.Errorf("%s: IsJudgment of %s is %v", c.system, c.judgment, got)
		}
		if slowIsJudgment(s, j) != c.want {
			t.Errorf("%s: the second way says of %s that it is not %v", c.system, c.judgment, c.want)
		}
	}
}

// TestJudgmentsInLongContexts looks at contexts of as many types as terms and judgments may have, and of others.
func TestJudgmentsInLongContexts(t *testing.T) {
	s := impl.BoundSystem(2)
	for _, n := range []int{0, 1, 7, 8, 9, 10, 100, 399, 400, 401, 402, 1000} {
		for _, i := range []int{0, 7, 8, 9, n - 1, n, n + 1, 400} {
			if i < 0 {
				continue
			}
			j, want := variables(n, i), n <= 400 && i < n
			if impl.IsJudgment(s, j) != want || impl.StepHolds(s, []impl.Judgment{j}, 0) != want {
				t.Errorf("the variable %d of %d: IsJudgment %v, StepHolds %v", i, n, !want, impl.StepHolds(s, []impl.Judgment{j}, 0))
			}
			if check := impl.CheckDerivation(s, []impl.Judgment{j}); (check == -1) != want || check > 0 {
				t.Errorf("the variable %d of %d: CheckDerivation %d", i, n, check)
			}
			if !want {
				continue
			}
			for _, budgets := range [][]int{j.Budgets[1:], append(slices.Clone(j.Budgets), 0)} {
				other := j
				other.Budgets = budgets
				if impl.IsJudgment(s, other) {
					t.Errorf("%d budgets for %d variables are a judgment", len(budgets), n)
				}
			}
			j.Budgets[i] = 0
			if impl.StepHolds(s, []impl.Judgment{j}, 0) || !impl.IsJudgment(s, j) {
				t.Errorf("the variable %d of %d needs nothing", i, n)
			}
			j.Budgets[i] = 1
			j.Ctx[n-1] = []int{23, 0}
			if impl.IsJudgment(s, j) {
				t.Errorf("the type %d of %d may be one of another system", n-1, n)
			}
		}
	}
	huge := impl.Judgment{Ctx: make([][]int, 1000000), Budgets: make([]int, 1000000), Term: numberTerm(1), Type: []int{0}}
	if impl.IsJudgment(s, huge) {
		t.Error("a million types are a context")
	}
}

// TestStepsThatAddVariablesToLongContexts looks at kids whose context is just as long as it may be, and longer.
func TestStepsThatAddVariablesToLongContexts(t *testing.T) {
	s, number := impl.BoundSystem(2), []int{0}
	for _, c := range []struct {
		name  string
		added int
		first []int
		term  impl.Term
		ty    []int
	}{
		{"add", 0, number, leastTerm(impl.TmAdd, variableTerm(0), numberTerm(2)), number},
		{"fun", 1, nil, leastTerm(impl.TmFun, numberTerm(2)), []int{4, 0, 0}},
		{"open", 1, []int{20, 0}, leastTerm(impl.TmOpen, variableTerm(0), numberTerm(2)), number},
		{"case", 1, []int{2, 0, 0}, leastTerm(impl.TmCase, variableTerm(0), numberTerm(2), numberTerm(2)), number},
		{"split", 2, []int{1, 0, 0}, leastTerm(impl.TmSplit, variableTerm(0), numberTerm(2)), number},
	} {
		for _, n := range []int{1, 6, 7, 8, 9, 397, 398, 399, 400} {
			root := variables(n, 0)
			var l []impl.Judgment
			if c.first != nil {
				root.Ctx[0], root.Type = c.first, c.first
				l = append(l, root)
			}
			kid := variables(n+c.added, n+c.added)
			kid.Ctx, kid.Term = slices.Concat(kid.Ctx[:c.added], root.Ctx), numberTerm(2)
			l = append(l, kid)
			root.Term, root.Type, root.From = c.term, c.ty, nil
			for k := range c.term.Kids {
				root.From = append(root.From, min(k, len(l)-1))
			}
			l = append(l, root)
			want := n+c.added <= 400
			if got := impl.StepHolds(s, l, len(l)-1); got != want || !impl.IsJudgment(s, root) || impl.IsJudgment(s, kid) != want {
				t.Errorf("%s in a context of %d types: %v", c.name, n, got)
			}
			wantCheck := -1
			if !want {
				wantCheck = len(l) - 2
			}
			if got := impl.CheckDerivation(s, l); got != wantCheck {
				t.Errorf("%s in a context of %d types: CheckDerivation is %d", c.name, n, got)
			}
		}
	}
}

// TestJudgmentsOfLargeTerms looks at terms of as many nodes as there may be, and of more.
func TestJudgmentsOfLargeTerms(t *testing.T) {
	s := impl.BoundSystem(2)
	judgment := func(x impl.Term) impl.Judgment { return impl.Judgment{Term: x, Type: []int{0}} }
	for _, nodes := range []int{399, 400, 401, 402} {
		for name, x := range towers(nodes) {
			if got := impl.IsJudgment(s, judgment(x)); got != (nodes <= 400) {
				t.Errorf("IsJudgment of a tower of %s of %d nodes is %v", name, nodes, got)
			}
		}
	}
	for times, want := range map[int]bool{1: true, 8: true, 9: false, 60: false} {
		if got := impl.IsJudgment(s, judgment(doubled(times))); got != want {
			t.Errorf("IsJudgment of a term that is doubled %d times is %v", times, got)
		}
	}
	// A term with a kid that is itself is no term, neither of a judgment nor of one that a step is from.
	for _, x := range []impl.Term{endless(), doubled(60)} {
		l := []impl.Judgment{judgment(x), judgment(leastTerm(impl.TmBox, x)), judgment(numberTerm(1)), judgment(leastTerm(impl.TmBox, numberTerm(1)))}
		l[1].From, l[3].From = []int{0}, []int{0}
		for i := range l {
			if impl.StepHolds(s, l, i) != (i == 2) {
				t.Errorf("StepHolds of %d is wrong beside a term without end", i)
			}
		}
		if impl.CheckDerivation(s, l) != 0 || impl.CheckDerivation(s, l[2:]) != 1 {
			t.Error("CheckDerivation is wrong with a term without end")
		}
		if l, ok := impl.Derive(s, nil, x); ok || len(l) > 0 {
			t.Error("Derive of a term without end does not fail")
		}
	}
}

// TestStepsFrom looks at which steps a step may be from.
func TestStepsFrom(t *testing.T) {
	s := impl.BoundSystem(2)
	add, one := "n|2|add(x0,x0)|n|", "n|1|x0|n|"
	for _, c := range []struct {
		steps string
		i     int
		want  bool
	}{
		{one + ";" + add + "0 0", 1, true},
		{one + ";" + add + "0 1", 1, false},
		{one + ";" + add + "1 0", 1, false},
		{one + ";" + add + "1 1", 1, false},
		{one + ";" + add + "0 -1", 1, false},
		{one + ";" + add + "-1 0", 1, false},
		{one + ";" + add + "0 2", 1, false},
		{one + ";" + add, 1, false},
		{one + ";" + add + "0", 1, false},
		{one + ";" + add + "0 0 0", 1, false},
		{one + ";" + add + "0 0 1", 1, false},
		// A later step does not serve, even if it is a good one.
		{add + "1 1;" + one, 0, false},
		{add + "1 1;" + one, 1, true},
		{one + ";" + add + "0 2;" + one, 1, false},
		{one + ";" + add + "2 0;" + one, 1, false},
		{one + ";" + one + ";" + add + "0 1", 2, true},
		{one + ";" + one + ";" + add + "1 0", 2, true},
		{one + ";" + one + ";" + add + "1 1", 2, true},
		// Steps that serve none, or many, or that stand between.
		{one + ";||1|n|;" + add + "0 0", 2, true},
		{one + ";" + add + "0 0;" + add + "0 0", 2, true},
		{one + ";" + add + "0 0;n|2|box:1(x0)|!1.n|0;n|3|add(add(x0,x0),x0)|n|1 0", 3, true},
		{one + ";" + add + "0 0;n|2|box:1(x0)|!1.n|0;n|3|add(add(x0,x0),x0)|n|0 1", 3, false},
		{one + ";" + add + "0 0;n|2|box:1(x0)|!1.n|0;n|3|add(add(x0,x0),x0)|n|1 2", 3, false},
		{one + ";" + add + "0 0;n|3|add(add(x0,x0),add(x0,x0))|n|1 1", 2, true},
		{one + ";" + add + "0 0;n|2|add(add(x0,x0),add(x0,x0))|n|1 1", 2, false},
		// The term of the judgment is the kid, in all parts.
		{"n|1|1|n|;" + add + "0 0", 1, false},
		{"n n|1 1|x1|n|;n n|2 2|add(x0,x0)|n|0 0", 1, false},
		{"n n|1 1|x0|n|;n n|2 2|add(x0,x0)|n|0 0", 1, true},
		{"||1|n|;||add(2,1)|n|0 0", 1, false},
		{"||1|n|;||box:1(2)|!1.n|0", 1, false},
		{"||box:2(1)|!1.n|;||box:1(box:1(1))|!1.!1.n|0", 1, false},
		{"||box:1(1)|!1.n|;||box:1(box:1(1))|!1.!1.n|0", 1, true},
		{"||left:n(1)|+nn|;||box:1(right:n(1))|!1.+nn|0", 1, false},
		{"||left:!1.n(1)|+nn|;||box:1(left:n(1))|!1.+nn|0", 1, false},
		{"||left:n(1)|+nn|;||box:1(left:n(1))|!1.+nn|0", 1, true},
		{"||left:n(2)|+nn|;||box:1(left:n(1))|!1.+nn|0", 1, false},
		{"||add(1,2)|n|;||box:1(add(2,1))|!1.n|0", 1, false},
		{"||add(1,2)|n|;||box:1(pair(1,2))|!1.n|0", 1, false},
		// The context is the same, in all types and in their order.
		{"n n|1 1|x0|n|;n|2|add(x0,x0)|n|0 0", 1, false},
		{"n|1|x0|n|;n n|2 2|add(x0,x0)|n|0 0", 1, false},
		{"n !1.n|1 1|x0|n|;!1.n n|2 2|add(x0,x0)|n|0 0", 1, false},
		{"!1.n|1|x0|n|;!2.n|2|add(x0,x0)|n|0 0", 1, false},
		{"!1.n|1|x0|n|;!1.n|2|add(x0,x0)|n|0 0", 1, true},
		{"n n n|1 1 1|x0|n|;n n !1.n|2 2 2|add(x0,x0)|n|0 0", 1, false},
		{"||1|n|;n|0|box:1(1)|!1.n|0", 1, false},
		{"n|0|1|n|;||box:1(1)|!1.n|0", 1, false},
		// What it is from is a judgment.
		{"n|4|x0|n|;" + add + "0 0", 1, false},
		{"n|-1|x0|n|;" + add + "0 0", 1, false},
		{"n|1 1|x0|n|;" + add + "0 0", 1, false},
		{"n||x0|n|;" + add + "0 0", 1, false},
		{"n|1|x0|!4.n|;" + "n|1|box:1(x0)|!1.!3.n|0", 1, false},
		{"n|1|x0|!?.n|;" + "n|1|box:1(x0)|!1.!3.n|0", 1, false},
		{"n|1|x0|!3.n|;" + "n|1|box:1(x0)|!1.!3.n|0", 1, true},
		// It need not hold, nor do steps around it.
		{"n|0|x0|n|0 0 0;" + add + "0 0", 1, true},
		{"n|0|x0|n|-7;" + add + "0 0", 1, true},
		{"n|0|x0|n|;" + add + "0 0;n|9|x7|n|", 1, true},
		{"n|9|x7|n|;" + one + ";" + add + "1 1", 2, true},
		{"n|9|x7|n|;" + one + ";" + add + "0 1", 2, false},
	} {
		l := stepsOf(t, c.steps)
		if got := impl.StepHolds(s, l, c.i); got != c.want {
			t.Errorf("StepHolds of %d in %s is %v", c.i, c.steps, got)
		}
		if slowStepHolds(s, l, c.i) != c.want {
			t.Errorf("the second way says of %d in %s that it is not %v", c.i, c.steps, c.want)
		}
	}
	l := stepsOf(t, one+";"+one+";"+add+"0 1")
	for _, i := range append(strange(len(l)), -3, 3) {
		if impl.StepHolds(s, l, i) {
			t.Errorf("the step %d of three holds", i)
		}
		for k := range 2 {
			other := stepsOf(t, one+";"+one+";"+add+"0 1")
			other[2].From[k] = i
			if impl.StepHolds(s, other, 2) || impl.CheckDerivation(s, other) != 2 {
				t.Errorf("a step from %d holds", i)
			}
		}
		if impl.StepHolds(s, nil, i) {
			t.Errorf("the step %d of none holds", i)
		}
	}
	if impl.StepHolds(s, nil, 0) || impl.StepHolds(s, []impl.Judgment{}, 0) {
		t.Error("the first step of none holds")
	}
}

func TestCheckDerivation(t *testing.T) {
	s := impl.BoundSystem(2)
	good := "n|1|x0|n|;n|0|1|n|;n|1|add(x0,1)|n|0 1;n|2|box:2(add(x0,1))|!2.n|2"
	for _, c := range []struct {
		steps string
		want  int
	}{
		{"", 0},
		{"||1|n|", -1},
		{"||1|n|;||2|n|;||1|n|", -1},
		{good, -1},
		{strings.Replace(good, "n|1|x0", "n|0|x0", 1), 0},
		{strings.Replace(good, "n|0|1|n|;", "n|0|1|n|0;", 1), 1},
		{strings.Replace(good, "|0 1;", "|1 0;", 1), 2},
		{strings.Replace(good, "!2.n|2", "!1.n|2", 1), 3},
		{strings.Replace(good, "!2.n|2", "!2.n|3", 1), 3},
		{strings.Replace(good, "!2.n|2", "!2.n|1", 1), 3},
		// The last step holds, though an earlier one does not.
		{strings.Replace(good, "n|1|add", "n|0|add", 1), 2},
		{strings.Replace(good, "n|0|1|n|", "n|0|1|n|1", 1), 1},
		{strings.Replace(good, "n|1|x0|n|;", "n|0|x0|n|;", 1), 0},
		// Of several the first one counts.
		{strings.Replace(strings.Replace(good, "!2.n|2", "!1.n|2", 1), "|0 1;", "|0 7;", 1), 2},
		{"n|0|x0|n|;" + good, 0},
		{good + ";n|0|x0|n|", 4},
		{good + ";" + good, -1},
		{"n|1|x0|n|;n|2|add(x0,x0)|n|0 0;n|4|x0|n|", 2},
		{"n|4|x0|n|;n|1|x0|n|;n|2|add(x0,x0)|n|1 1", 0},
		{"n|2|add(x0,x0)|n|1 1;n|1|x0|n|", 0},
		{"n|3|x0|n|;n|2|add(x0,x0)|n|0 0", 1},
		{"n|3|x0|n|;n|3|add(x0,x0)|n|0 0", -1},
		{"n|1|x0|n|;n|3|add(x0,x0)|n|0 0", -1},
	} {
		l := stepsOf(t, c.steps)
		if got := impl.CheckDerivation(s, l); got != c.want {
			t.Errorf("CheckDerivation of %s is %d, not %d", c.steps, got, c.want)
		}
		if got := slowCheck(s, l); got != c.want {
			t.Errorf("the second way says of %s %d, not %d", c.steps, got, c.want)
		}
	}
	if impl.CheckDerivation(s, []impl.Judgment{}) != 0 || impl.CheckDerivation(s, make([]impl.Judgment, 3)) != 0 {
		t.Error("CheckDerivation of nothing is wrong")
	}
	// Steps hold in one system, and not in another.
	l := stepsOf(t, "n|1|x0|n|;n|2|add(x0,x0)|n|0 0")
	for name, want := range map[string]int{"bound 2": -1, "count 2": -1, "bound 1": -1, "level 1": 1, "level 2": 1, "level 1*level 1": 1} {
		if got := impl.CheckDerivation(systemOf(t, name), l); got != want {
			t.Errorf("%s: CheckDerivation is %d, not %d", name, got, want)
		}
	}
}

// derivedSystems are the systems whose made terms are derived.
func derivedSystems() []string {
	return []string{
		"count 1", "count 2", "count 5", "bound 1", "bound 2", "bound 5", "level 1", "level 2", "level 5", "count 1*level 1",
		"level 1*level 1", "bound 1*level 2", "bound 1*upsideDown", "upsideDown", "fading", "askew", "level 1*askew",
	}
}

// madeDerivations calls each with made terms that have a type in their context.
func madeDerivations(t *testing.T, count int, each func(m *typedMaker, name string, ctx [][]int, x impl.Term)) {
	t.Helper()
	for _, name := range derivedSystems() {
		m := newTypedMaker(systemOf(t, name))
		for i := range count {
			ctx := m.context(4)
			x := m.make(ctx, m.typ(4), 6+i%40)
			if sizeOf(x) <= 400 && slowFind(m.s, ctx, x).fault == impl.FaultNone {
				each(m, name, ctx, x)
			}
		}
	}
}

// TestDeriveMadeTerms holds derivations against a second way, and against what TypeOf returns.
func TestDeriveMadeTerms(t *testing.T) {
	many, ops := 0, map[int]bool{}
	madeDerivations(t, 60, func(m *typedMaker, name string, ctx [][]int, x impl.Term) {
		l, ok := impl.Derive(m.s, ctx, x)
		if got, want := stepsText(l), stepsText(slowDerive(m.s, ctx, x)); !ok || got != want {
			t.Fatalf("%s: Derive of %s is %s, %v, not %s", name, textOf(x), got, ok, want)
		}
		ty, needs, _ := impl.TypeOf(m.s, ctx, x)
		last := l[len(l)-1]
		if len(l) != sizeOf(x) || !equalTerms(last.Term, x) || !slices.Equal(last.Type, ty) || !slices.Equal(last.Budgets, needs) {
			t.Fatalf("%s: the last judgment of %s is %s", name, textOf(x), judgmentText(last))
		}
		if got := impl.CheckDerivation(m.s, l); got != -1 {
			t.Fatalf("%s: CheckDerivation of what Derive returns of %s is %d", name, textOf(x), got)
		}
		for i, j := range l {
			if !impl.IsJudgment(m.s, j) || !impl.StepHolds(m.s, l, i) {
				t.Fatalf("%s: the step %d of %s does not hold", name, i, textOf(x))
			}
			if impl.CheckDerivation(m.s, l[:i+1]) != -1 {
				t.Fatalf("%s: the steps up to %d of %s do not hold", name, i, textOf(x))
			}
			ops[j.Term.Op] = true
		}
		if len(l) > 30 {
			many++
		}
	})
	if many < 20 || len(ops) != 13 {
		t.Errorf("only %d terms are large, and %d ops occur", many, len(ops))
	}
}

// TestDeriveOfUntypedTerms looks at made terms, most of which have no type.
func TestDeriveOfUntypedTerms(t *testing.T) {
	typed, untyped := 0, 0
	for _, name := range derivedSystems() {
		s := systemOf(t, name)
		terms, types := newTermMaker(s.Size, false), newTypedMaker(s)
		for i := range 60 {
			ctx := types.context(4)
			x, _ := terms.make(1+i%6, len(ctx))
			f := slowFind(s, ctx, x)
			want := "fails"
			if f.fault == impl.FaultNone {
				typed++
				want = stepsText(slowDerive(s, ctx, x))
			} else {
				untyped++
			}
			if got := derived(t, s, ctx, x); got != want {
				t.Fatalf("%s: Derive of %s is %s, not %s", name, textOf(x), got, want)
			}
		}
	}
	if typed < 50 || untyped < 50 {
		t.Errorf("only %d have a type, and %d have none", typed, untyped)
	}
}

// TestBudgetsOfTheLastJudgment looks at greater budgets, which keep it, and at others.
func TestBudgetsOfTheLastJudgment(t *testing.T) {
	kept, broken := 0, 0
	madeDerivations(t, 30, func(m *typedMaker, name string, ctx [][]int, x impl.Term) {
		l, _ := impl.Derive(m.s, ctx, x)
		last := len(l) - 1
		needs := slices.Clone(l[last].Budgets)
		for v, need := range needs {
			for g := range m.s.Size {
				l[last].Budgets[v] = g
				want := -1
				if !m.s.Below[need*m.s.Size+g] {
					want = last
					broken++
				} else if g != need {
					kept++
				}
				if got := impl.CheckDerivation(m.s, l); got != want {
					t.Fatalf("%s: %s needs %v, and with the budgets %v CheckDerivation is %d", name, textOf(x), needs, l[last].Budgets, got)
				}
			}
			l[last].Budgets[v] = need
		}
		// Several at once.
		for range 5 {
			all := true
			for v, need := range needs {
				l[last].Budgets[v] = m.grade()
				all = all && m.s.Below[need*m.s.Size+l[last].Budgets[v]]
			}
			if impl.StepHolds(m.s, l, last) != all {
				t.Fatalf("%s: %s needs %v, and with the budgets %v StepHolds is %v", name, textOf(x), needs, l[last].Budgets, !all)
			}
		}
	})
	if kept < 500 || broken < 500 {
		t.Errorf("only %d are kept, and %d broken", kept, broken)
	}
}

// changed returns the steps with a few changes in one of them.
func changed(m *typedMaker, l []impl.Judgment) []impl.Judgment {
	l = copyOfJudgments(l)
	r := m.r
	j := &l[r.Intn(len(l))]
	other := l[r.Intn(len(l))]
	// Most often it is one near the end, behind which few others follow.
	if r.Intn(2) == 0 {
		j = &l[max(0, len(l)-1-r.Intn(3))]
	}
	switch r.Intn(14) {
	case 0, 1, 2, 3:
		for v := range j.Budgets {
			if r.Intn(2) == 0 {
				j.Budgets[v] = m.grade()
			}
		}
	case 4, 5:
		j.Type = m.typ(3)
	case 6:
		j.Type = other.Type
	case 7:
		if len(j.Ctx) > 1 {
			a, b := r.Intn(len(j.Ctx)), r.Intn(len(j.Ctx))
			j.Ctx[a], j.Ctx[b] = j.Ctx[b], j.Ctx[a]
		}
	case 8:
		j.Ctx, j.Budgets = append(j.Ctx, m.typ(2)), append(j.Budgets, m.grade())
	case 9:
		if len(j.Ctx) > 0 {
			j.Ctx, j.Budgets = j.Ctx[1:], j.Budgets[1:]
		}
	case 10:
		if len(j.Ctx) > 0 {
			j.Ctx[r.Intn(len(j.Ctx))] = m.typ(2)
		}
	case 11:
		if j.Term.Op > impl.TmNum && rows[j.Term.Op].graded {
			j.Term.N = m.grade()
		} else {
			j.Term = other.Term
		}
	case 12:
		if len(j.From) > 0 {
			j.From[r.Intn(len(j.From))] = r.Intn(len(l)+2) - 1
		}
	case 13:
		if len(j.Budgets) > 0 {
			j.Budgets[r.Intn(len(j.Budgets))] = []int{-1, m.s.Size, 1 << 40}[r.Intn(3)]
		} else {
			j.From = append(j.From, 0)
		}
	}
	return l
}

// TestChangedDerivations changes derivations of made terms, and holds the answers against those of a second way.
func TestChangedDerivations(t *testing.T) {
	good, bad, holds, others := 0, 0, 0, 0
	madeDerivations(t, 60, func(m *typedMaker, name string, ctx [][]int, x impl.Term) {
		start, _ := impl.Derive(m.s, ctx, x)
		if len(start) > 60 {
			return
		}
		for range 12 {
			l := start
			for range 1 + m.r.Intn(3) {
				l = changed(m, l)
			}
			want := slowCheck(m.s, l)
			if got := impl.CheckDerivation(m.s, l); got != want {
				t.Fatalf("%s: CheckDerivation of %s is %d, not %d", name, stepsText(l), got, want)
			}
			if want < 0 {
				good++
				continue
			}
			bad++
			for i := want; i < len(l); i++ {
				want := slowStepHolds(m.s, l, i)
				if got := impl.StepHolds(m.s, l, i); got != want {
					t.Fatalf("%s: StepHolds of %d in %s is %v", name, i, stepsText(l), got)
				}
				if got := impl.IsJudgment(m.s, l[i]); got != slowIsJudgment(m.s, l[i]) {
					t.Fatalf("%s: IsJudgment of %s is %v", name, judgmentText(l[i]), got)
				}
				if want {
					holds++
				} else {
					others++
				}
			}
		}
	})
	if good < 500 || bad < 500 || holds < 500 || others < 500 {
		t.Errorf("only %d hold, %d do not; of those %d steps hold, and %d do not", good, bad, holds, others)
	}
}

// TestDerivationsOfMostNodes derives terms of as many nodes as there may be.
func TestDerivationsOfMostNodes(t *testing.T) {
	s := impl.BoundSystem(2)
	for name, x := range towers(400) {
		want := "fails"
		if slowFind(s, nil, x).fault == impl.FaultNone {
			want = stepsText(slowDerive(s, nil, x))
		}
		if got := derived(t, s, nil, x); got != want {
			t.Errorf("Derive of a tower of %s is wrong", name)
		}
	}
	x := parsed(t, ofSize(400))
	l, ok := impl.Derive(s, [][]int{{0}, {0}}, x)
	if !ok || len(l) != 400 || impl.CheckDerivation(s, l) != -1 {
		t.Errorf("Derive of a term of 400 nodes has %d steps, %v", len(l), ok)
	}
	l[399].Budgets[1] = 4
	if impl.CheckDerivation(s, l) != 399 {
		t.Error("the last one of 400 steps holds though a budget is no grade")
	}
	if l, ok := impl.Derive(s, nil, leastTerm(impl.TmBox, x)); ok || len(l) > 0 {
		t.Error("Derive of a term of 401 nodes does not fail")
	}
}

// TestDerivationsWithManyVariables derives terms within which there are more variables than a context may have. Where
// there are more than MaxTerm, Derive does not fail, as TypeOf does not, but what it returns does not hold.
func TestDerivationsWithManyVariables(t *testing.T) {
	s := impl.BoundSystem(2)
	for _, c := range []struct{ variables, times, want int }{
		{1, 4, -1},
		{8, 4, -1},
		{1, 199, -1},
		{2, 199, -1},
		{3, 199, 199},
		{4, 199, 199},
		{5, 199, 198},
		{8, 199, 197},
		{8, 196, -1},
		{8, 197, 197},
	} {
		ctx := slices.Repeat([][]int{{1, 0, 0}}, c.variables)
		x := splits(c.times, leastTerm(impl.TmBox, numberTerm(1)))
		l, ok := impl.Derive(s, ctx, x)
		if !ok || len(l) != 2*c.times+2 {
			t.Fatalf("%d splits: Derive has %d steps, %v", c.times, len(l), ok)
		}
		if got := impl.CheckDerivation(s, l); got != c.want {
			t.Errorf("%d splits with %d variables: CheckDerivation is %d, not %d", c.times, c.variables, got, c.want)
		}
		for i, j := range l {
			// First come the pairs, from the outside on, and then all that is around the number.
			variables, from := c.variables+2*min(i, c.times), 0
			if i > c.times {
				variables, from = c.variables+2*(2*c.times+1-i), 2
			}
			if i == c.times+1 {
				variables, from = c.variables+2*c.times, 1
			}
			if len(j.Ctx) != variables || len(j.Budgets) != variables || len(j.From) != from {
				t.Fatalf("%d splits with %d variables: the step %d has %d variables, and is from %v", c.times, c.variables, i, len(j.Ctx), j.From)
			}
			if impl.IsJudgment(s, j) != (variables <= 400) {
				t.Errorf("%d splits with %d variables: IsJudgment of %d is wrong", c.times, c.variables, i)
			}
		}
	}
}

// TestNothingIsJudgedInBadSystems looks at tables that are no systems.
func TestNothingIsJudgedInBadSystems(t *testing.T) {
	good := stepsOf(t, "n|1|x0|n|;n|2|add(x0,x0)|n|0 0")
	for _, systems := range []map[string]impl.System{badSystems(), lawBreakers()} {
		for reason, s := range systems {
			for i, j := range good {
				if impl.IsJudgment(s, j) || impl.StepHolds(s, good, i) {
					t.Errorf("%s: there is a judgment", reason)
				}
			}
			if impl.IsJudgment(s, stepsOf(t, "||1|n|")[0]) {
				t.Errorf("%s: there is a judgment without variables", reason)
			}
			if got := impl.CheckDerivation(s, good); got != 0 {
				t.Errorf("%s: CheckDerivation is %d", reason, got)
			}
			if got := impl.CheckDerivation(s, nil); got != 0 {
				t.Errorf("%s: CheckDerivation of nothing is %d", reason, got)
			}
			if got := derived(t, s, nil, numberTerm(1)); got != "fails" {
				t.Errorf("%s: Derive is %s", reason, got)
			}
		}
	}
}

// TestWhatIsNoJudgment changes one part of a judgment, as a step of its own and as one that another is from.
func TestWhatIsNoJudgment(t *testing.T) {
	s := impl.BoundSystem(2)
	check := func(reason string, change func(j *impl.Judgment)) {
		t.Helper()
		l := stepsOf(t, "n !1.n|1 0|x0|n|;n !1.n|1 0|box:1(x0)|!1.n|0;n !1.n|1 0|box:1(x0)|!1.n|0")
		if impl.CheckDerivation(s, l) != -1 {
			t.Fatal("the steps do not hold without a change")
		}
		change(&l[1])
		if impl.IsJudgment(s, l[1]) || impl.StepHolds(s, l, 1) || impl.CheckDerivation(s, l) != 1 {
			t.Errorf("%s: IsJudgment %v, StepHolds %v, CheckDerivation %d", reason, impl.IsJudgment(s, l[1]), impl.StepHolds(s, l, 1), impl.CheckDerivation(s, l))
		}
		// A step around the term, which is from it.
		around := l[2]
		around.Term, around.Type, around.From = leastTerm(impl.TmBox, l[1].Term), append([]int{20}, l[1].Type...), []int{1}
		around.Ctx, around.Budgets = l[1].Ctx, l[1].Budgets
		if impl.StepHolds(s, append(l, around), 3) {
			t.Errorf("%s: a step from it holds", reason)
		}
		around = stepsOf(t, "n !1.n|1 0|box:1(box:1(x0))|!1.!1.n|1")[0]
		if impl.StepHolds(s, append(l, around), 3) {
			t.Errorf("%s: a good step from it holds", reason)
		}
	}
	for reason, ty := range badTypes() {
		check("in the context: "+reason, func(j *impl.Judgment) { j.Ctx[1] = ty })
		check("first in the context: "+reason, func(j *impl.Judgment) { j.Ctx[0] = ty })
		check("as the type: "+reason, func(j *impl.Judgment) { j.Type = ty })
		check("in the term: "+reason, func(j *impl.Judgment) {
			j.Term = impl.Term{Op: impl.TmLeft, Type: ty, Kids: []impl.Term{numberTerm(1)}}
		})
	}
	for _, ty := range [][]int{nil, {7, 0, 0}, {23, 0}, {35, 0, 0}, {36, 0}, {20, 23, 0}, {1, 0}, {0, 0}, {-1}, {20, 36, 0}} {
		check("in the context", func(j *impl.Judgment) { j.Ctx[1] = ty })
		check("as the type", func(j *impl.Judgment) { j.Type = ty })
	}
	for _, g := range strange(s.Size) {
		check("a budget", func(j *impl.Judgment) { j.Budgets[0] = g })
		check("the last budget", func(j *impl.Judgment) { j.Budgets[1] = g })
		check("a grade", func(j *impl.Judgment) { j.Term.N = g })
		if g < 0 || g > 2 {
			check("a variable", func(j *impl.Judgment) { j.Term.Kids[0].N = g })
			check("a number", func(j *impl.Judgment) { j.Term.Kids[0] = numberTerm(g) })
		}
	}
	check("no budgets", func(j *impl.Judgment) { j.Budgets = nil })
	check("too few budgets", func(j *impl.Judgment) { j.Budgets = j.Budgets[:1] })
	check("too many budgets", func(j *impl.Judgment) { j.Budgets = []int{1, 0, 0} })
	check("a million budgets", func(j *impl.Judgment) { j.Budgets = make([]int, 1000000) })
	check("no context", func(j *impl.Judgment) { j.Ctx = nil })
	check("a smaller context", func(j *impl.Judgment) { j.Ctx = j.Ctx[:1] })
	check("a larger context", func(j *impl.Judgment) { j.Ctx = append(j.Ctx, []int{0}) })
	check("neither context nor budgets", func(j *impl.Judgment) { j.Ctx, j.Budgets = nil, nil })
	check("a variable too few", func(j *impl.Judgment) { j.Term = variableTerm(2) })
	check("the zero judgment", func(j *impl.Judgment) { *j = impl.Judgment{} })
	for reason, x := range badTerms() {
		check("the term: "+reason, func(j *impl.Judgment) { j.Term = x })
		check("a kid: "+reason, func(j *impl.Judgment) { j.Term.Kids[0] = x })
	}
}

// TestDeriveFailsForBadArguments looks at contexts that are none, and at terms that are none.
func TestDeriveFailsForBadArguments(t *testing.T) {
	s := impl.BoundSystem(2)
	for reason, ctx := range badContexts() {
		for _, x := range []impl.Term{numberTerm(1), variableTerm(0)} {
			if got := derived(t, s, ctx, x); got != "fails" {
				t.Errorf("%s: Derive is %s", reason, got)
			}
		}
	}
	for reason, x := range badTerms() {
		for _, y := range []impl.Term{x, leastTerm(impl.TmBox, x), leastTerm(impl.TmAdd, numberTerm(1), x)} {
			if l, ok := impl.Derive(s, [][]int{{0}}, y); ok || len(l) > 0 {
				t.Errorf("%s: Derive has %d steps, %v", reason, len(l), ok)
			}
		}
	}
	for n := range 11 {
		ctx := slices.Repeat([][]int{{0}}, n)
		for i := range n + 2 {
			l, ok := impl.Derive(s, ctx, variableTerm(i))
			if ok != (n <= 8 && i < n) || len(l) > 0 != ok {
				t.Errorf("Derive of the variable %d of %d is %v", i, n, ok)
			}
			if ok && stepsText(l) != judgmentText(variables(n, i)) {
				t.Errorf("Derive of the variable %d of %d is %s", i, n, stepsText(l))
			}
		}
	}
}

// TestDerivationsShareNoMemory looks at the memory of what Derive returns, and at that of the arguments.
func TestDerivationsShareNoMemory(t *testing.T) {
	madeDerivations(t, 12, func(m *typedMaker, name string, ctx [][]int, x impl.Term) {
		wide, term := wideContext(ctx), copyOfTerm(x)
		before := dump(reflect.ValueOf(wide)) + dump(reflect.ValueOf(term))
		l, _ := impl.Derive(m.s, wide, term)
		if before != dump(reflect.ValueOf(wide))+dump(reflect.ValueOf(term)) {
			t.Fatalf("%s: Derive of %s changes an argument", name, textOf(x))
		}
		if !ownsMemory(l, wide, term, m.s) {
			t.Fatalf("%s: Derive of %s returns memory that is shared", name, textOf(x))
		}
		again, _ := impl.Derive(m.s, wide, term)
		if stepsText(l) != stepsText(again) || !ownsMemory([][]impl.Judgment{l, again}) {
			t.Fatalf("%s: Derive of %s keeps a state", name, textOf(x))
		}
	})
	// Parts that share memory in the arguments, and types that stand at several places.
	ty := []int{1, 0, 0}
	left := impl.Term{Op: impl.TmLeft, Type: ty, Kids: []impl.Term{variableTerm(0)}}
	function := impl.Term{Op: impl.TmFun, N: 2, Type: ty, Kids: []impl.Term{leastTerm(impl.TmSplit, variableTerm(0), variableTerm(1))}}
	x := leastTerm(impl.TmPair, leastTerm(impl.TmPair, left, left), leastTerm(impl.TmApp, function, variableTerm(1)))
	ctx := [][]int{ty, ty}
	l, ok := impl.Derive(impl.BoundSystem(2), ctx, x)
	if !ok || len(l) != 12 || !ownsMemory(l, ctx, x, ty) {
		t.Errorf("Derive of shared parts has %d steps, %v, or returns shared memory", len(l), ok)
	}
}

// TestStepsChangeNoArgument looks at all memory of the arguments, the spare room included.
func TestStepsChangeNoArgument(t *testing.T) {
	madeDerivations(t, 6, func(m *typedMaker, name string, ctx [][]int, x impl.Term) {
		l, _ := impl.Derive(m.s, ctx, x)
		if len(l) > 100 {
			return
		}
		for _, steps := range [][]impl.Judgment{copyOfJudgments(l), changed(m, l), changed(m, changed(m, l))} {
			before := dump(reflect.ValueOf(steps))
			check := impl.CheckDerivation(m.s, steps)
			for i, j := range steps {
				if impl.StepHolds(m.s, steps, i) != impl.StepHolds(m.s, steps, i) || impl.IsJudgment(m.s, j) != impl.IsJudgment(m.s, j) {
					t.Fatalf("%s: a function keeps a state for %s", name, judgmentText(j))
				}
			}
			if impl.CheckDerivation(m.s, steps) != check {
				t.Fatalf("%s: CheckDerivation keeps a state for %s", name, stepsText(steps))
			}
			if before != dump(reflect.ValueOf(steps)) {
				t.Fatalf("%s: a function changes %s", name, stepsText(l))
			}
		}
	})
	unchanged(t, "a function of derivations", impl.BoundSystem(2), func(s impl.System) {
		l, _ := impl.Derive(s, [][]int{{0}}, parsed(t, "add(x0,open:1(box:1(x0),x0))"))
		for i, j := range l {
			impl.IsJudgment(s, j)
			impl.StepHolds(s, l, i)
		}
		impl.CheckDerivation(s, l)
	})
}
