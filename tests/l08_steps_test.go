package tests

import (
	"slices"
	"testing"

	"loop.example/g03111/impl"
)

// stepCase says whether the step holds behind the earlier ones, which need not hold themselves.
type stepCase struct {
	system, earlier, step string
	want                  bool
}

func checkSteps(t *testing.T, cases []stepCase) {
	t.Helper()
	for _, c := range cases {
		s, l := systemOf(t, c.system), stepsOf(t, c.earlier+";"+c.step)
		if got := impl.StepHolds(s, l, len(l)-1); got != c.want {
			t.Errorf("%s: StepHolds of %s behind %s is %v", c.system, c.step, c.earlier, got)
		}
		if slowStepHolds(s, l, len(l)-1) != c.want {
			t.Errorf("%s: the second way says of %s behind %s that it is not %v", c.system, c.step, c.earlier, c.want)
		}
		if impl.IsJudgment(s, l[len(l)-1]) != slowIsJudgment(s, l[len(l)-1]) {
			t.Errorf("%s: IsJudgment of %s is wrong", c.system, c.step)
		}
	}
}

func TestStepsOfVariablesAndNumbers(t *testing.T) {
	checkSteps(t, []stepCase{
		{"bound 2", "", "n|1|x0|n|", true},
		{"bound 2", "", "n|2|x0|n|", true},
		{"bound 2", "", "n|3|x0|n|", true},
		{"bound 2", "", "n|0|x0|n|", false},
		{"count 2", "", "n|1|x0|n|", true},
		{"count 2", "", "n|2|x0|n|", false},
		{"count 2", "", "n|3|x0|n|", true},
		{"level 2", "", "n|1|x0|n|", true},
		{"level 2", "", "n|2|x0|n|", false},
		{"level 2", "", "n n|2 1|x1|n|", true},
		{"bound 2", "", "n !1.n|0 1|x1|!1.n|", true},
		{"bound 2", "", "n !1.n|1 1|x1|!1.n|", true},
		{"bound 2", "", "n !1.n|3 2|x1|!1.n|", true},
		{"bound 2", "", "n !1.n|0 0|x1|!1.n|", false},
		{"bound 2", "", "n !1.n|1 0|x1|!1.n|", false},
		{"bound 2", "", "n !1.n|3 0|x1|!1.n|", false},
		{"bound 2", "", "n !1.n|0 1|x1|n|", false},
		{"bound 2", "", "n !1.n|0 1|x1|!2.n|", false},
		{"bound 2", "", "n !1.n|0 1|x1|*n!1.n|", false},
		{"bound 2", "", "n !1.n|1 0|x0|!1.n|", false},
		{"count 2", "", "n !1.n|0 1|x1|!1.n|", true},
		{"count 2", "", "n !1.n|1 1|x1|!1.n|", false},
		{"count 2", "", "n !1.n|3 1|x1|!1.n|", true},
		{"bound 2", "", "n n n n n n n n|0 0 0 0 0 0 0 1|x7|n|", true},
		{"bound 2", "", "n n n n n n n n|1 1 1 1 1 1 1 0|x7|n|", false},
		{"bound 2", "", "||2|n|", true},
		{"bound 2", "", "||2|!1.n|", false},
		{"bound 2", "", "||0|*nn|", false},
		{"bound 2", "", "n !2.n|0 0|1|n|", true},
		{"bound 2", "", "n !2.n|3 2|1|n|", true},
		{"count 2", "", "n !2.n|3 0|1|n|", true},
		{"count 2", "", "n !2.n|1 0|1|n|", false},
		{"count 2", "", "n !2.n|0 2|1|n|", false},
		// Neither has a kid, so neither is from any step.
		{"bound 2", "n|1|x0|n|", "n|1|x0|n|0", false},
		{"bound 2", "n|1|x0|n|;n|1|x0|n|", "n|1|x0|n|0 1", false},
		{"bound 2", "n|1|x0|n|", "n|1|x0|n|-1", false},
		{"bound 2", "n|1|x0|n|", "n|1|x0|n|", true},
		{"bound 2", "||2|n|", "||2|n|0", false},
		{"bound 2", "", "||2|n|0", false},
		{"bound 2", "", "||2|n|7", false},
	})
}

func TestStepsOfAddIfAndPair(t *testing.T) {
	one, two := "n|1|x0|n|;", "n|2|x0|n|;"
	checkSteps(t, []stepCase{
		{"bound 2", "n|0|1|n|;" + one, "n|1|add(1,x0)|n|0 1", true},
		{"bound 2", "n|0|1|n|;" + one, "n|2|add(1,x0)|n|0 1", true},
		{"bound 2", "n|0|1|n|;" + one, "n|0|add(1,x0)|n|0 1", false},
		{"bound 2", "n|0|1|n|;" + one, "n|1|add(1,x0)|!1.n|0 1", false},
		{"bound 2", "n|0|1|n|;" + one, "n|1|add(1,x0)|n|1 0", false},
		{"bound 2", one + one, "n|2|add(x0,x0)|n|0 1", true},
		{"bound 2", one + one, "n|3|add(x0,x0)|n|1 0", true},
		{"bound 2", one, "n|2|add(x0,x0)|n|0 0", true},
		{"bound 2", one, "n|1|add(x0,x0)|n|0 0", false},
		{"level 2", one, "n|1|add(x0,x0)|n|0 0", true},
		// What counts is the budgets of the kids, not what they need, and not whether they hold.
		{"bound 2", two + one, "n|2|add(x0,x0)|n|0 1", false},
		{"bound 2", one + two, "n|2|add(x0,x0)|n|0 1", false},
		{"bound 2", two + one, "n|2|add(x0,x0)|n|1 1", true},
		{"bound 2", two + two, "n|2|add(x0,x0)|n|0 1", false},
		{"bound 2", two + one, "n|3|add(x0,x0)|n|0 1", true},
		{"bound 2", "n|0|x0|n|;" + one, "n|1|add(x0,x0)|n|0 1", true},
		{"bound 2", "n|0|x0|n|", "n|0|add(x0,x0)|n|0 0", true},
		{"count 2", "n|3|x0|n|;" + one, "n|2|add(x0,x0)|n|0 1", false},
		{"count 2", "n|3|x0|n|;" + one, "n|3|add(x0,x0)|n|0 1", true},
		{"count 2", one, "n|2|add(x0,x0)|n|0 0", true},
		{"count 2", one, "n|1|add(x0,x0)|n|0 0", false},
		{"bound 2", "n n|1 2|x0|n|;n n|1 0|x1|n|", "n n|2 2|add(x0,x1)|n|0 1", true},
		{"bound 2", "n n|1 2|x0|n|;n n|1 0|x1|n|", "n n|2 1|add(x0,x1)|n|0 1", false},
		{"bound 2", "n n|1 2|x0|n|;n n|1 0|x1|n|", "n n|1 2|add(x0,x1)|n|0 1", false},
		{"bound 2", "n n|1 2|x0|n|;n n|1 0|x1|n|", "n n|1 1|add(x0,x1)|n|0 1", false},
		// So does the type that their judgments have.
		{"bound 2", "n|1|x0|!1.n|;" + one, "n|2|add(x0,x0)|n|0 1", false},
		{"bound 2", "n|1|x0|!1.n|;" + one, "n|2|add(x0,x0)|n|1 0", false},
		{"bound 2", "!1.n|1|x0|n|", "!1.n|2|add(x0,x0)|n|0 0", true},
		{"bound 2", "!1.n|1|x0|!1.n|", "!1.n|2|add(x0,x0)|n|0 0", false},
		{"bound 2", one + "n|0|1|n|;n|0|2|n|", "n|1|if(x0,1,2)|n|0 1 2", true},
		{"bound 2", one + "n|0|1|n|;n|0|2|n|", "n|0|if(x0,1,2)|n|0 1 2", false},
		{"bound 2", one + "n|0|1|n|;n|0|2|n|", "n|1|if(x0,1,2)|*nn|0 1 2", false},
		{"bound 2", one + "n|0|1|n|;n|0|2|n|", "n|1|if(x0,1,2)|n|0 2 1", false},
		{"bound 2", one + "n|0|1|n|;n|0|2|n|", "n|1|if(x0,1,2)|n|2 1 0", false},
		{"bound 2", one, "n|2|if(x0,x0,x0)|n|0 0 0", true},
		{"bound 2", one, "n|1|if(x0,x0,x0)|n|0 0 0", false},
		{"bound 2", one + two, "n|3|if(x0,x0,x0)|n|0 0 1", true},
		{"bound 2", one + two, "n|2|if(x0,x0,x0)|n|0 0 1", false},
		{"bound 2", one + two, "n|2|if(x0,x0,x0)|n|0 1 0", false},
		{"bound 2", two + "n|0|1|n|", "n|2|if(x0,1,1)|n|0 1 1", true},
		{"bound 2", two + "n|0|1|n|", "n|1|if(x0,1,1)|n|0 1 1", false},
		{"bound 2", "n n|0 0|0|n|;n n|1 2|x0|n|;n n|2 0|x1|n|", "n n|2 2|if(0,x0,x1)|n|0 1 2", true},
		{"bound 2", "n n|0 0|0|n|;n n|1 2|x0|n|;n n|2 0|x1|n|", "n n|2 1|if(0,x0,x1)|n|0 1 2", false},
		{"bound 2", "n n|0 0|0|n|;n n|1 2|x0|n|;n n|2 0|x1|n|", "n n|1 2|if(0,x0,x1)|n|0 1 2", false},
		{"bound 2", "n n|1 0|0|n|;n n|1 2|x0|n|;n n|2 0|x1|n|", "n n|2 2|if(0,x0,x1)|n|0 1 2", false},
		{"bound 2", "n n|1 0|0|n|;n n|1 2|x0|n|;n n|2 0|x1|n|", "n n|3 2|if(0,x0,x1)|n|0 1 2", true},
		{"count 2", "n|0|0|n|;" + one + "n|2|x0|n|", "n|2|if(0,x0,x0)|n|0 1 2", false},
		{"count 2", "n|0|0|n|;" + one + "n|2|x0|n|", "n|3|if(0,x0,x0)|n|0 1 2", true},
		{"count 2", "n|0|0|n|;" + one + "n|2|x0|n|", "n|2|if(0,x0,x0)|n|0 2 2", true},
		{"level 1*level 1", "n|0|0|n|;n|2|x0|n|;n|3|x0|n|", "n|1|if(0,x0,x0)|n|0 1 2", true},
		{"level 1*level 1", "n|0|0|n|;n|2|x0|n|;n|3|x0|n|", "n|2|if(0,x0,x0)|n|0 1 2", false},
		{"level 1*level 1", "n|0|0|n|;n|2|x0|n|;n|3|x0|n|", "n|3|if(0,x0,x0)|n|0 1 2", false},
		{"bound 2", "n|1|x0|!1.n|;n|0|1|n|;n|0|2|n|", "n|1|if(x0,1,2)|n|0 1 2", false},
		{"bound 2", one + "n|0|1|!1.n|;n|0|2|n|", "n|1|if(x0,1,2)|n|0 1 2", false},
		{"bound 2", one + "n|0|1|n|;n|0|2|!1.n|", "n|1|if(x0,1,2)|n|0 1 2", false},
		{"bound 2", one + "n|0|1|!1.n|;n|0|2|!1.n|", "n|1|if(x0,1,2)|!1.n|0 1 2", true},
		{"bound 2", one + "n|0|1|!1.n|;n|0|2|!1.n|", "n|1|if(x0,1,2)|n|0 1 2", false},
		{"bound 2", one + "n|0|1|!1.n|;n|0|2|!2.n|", "n|1|if(x0,1,2)|!1.n|0 1 2", false},
		{"bound 2", one + "n|0|1|n|", "n|1|pair(x0,1)|*nn|0 1", true},
		{"bound 2", one + "n|0|1|n|", "n|0|pair(x0,1)|*nn|0 1", false},
		{"bound 2", one + "n|0|1|n|", "n|1|pair(x0,1)|n|0 1", false},
		{"bound 2", one + "n|0|1|n|", "n|1|pair(x0,1)|+nn|0 1", false},
		{"bound 2", one + "n|0|1|n|", "n|1|pair(x0,1)|*nn|1 0", false},
		{"bound 2", one + two, "n|3|pair(x0,x0)|*nn|0 1", true},
		{"bound 2", one + two, "n|2|pair(x0,x0)|*nn|0 1", false},
		{"bound 2", one + two, "n|2|pair(x0,x0)|*nn|0 0", true},
		{"bound 2", one + "n|0|1|!2.n|", "n|1|pair(x0,1)|*n!2.n|0 1", true},
		{"bound 2", one + "n|0|1|!2.n|", "n|1|pair(x0,1)|*!2.nn|0 1", false},
		{"bound 2", one + "n|0|1|!2.n|", "n|1|pair(x0,1)|*nn|0 1", false},
	})
}

func TestStepsOfSplitAndOpen(t *testing.T) {
	pair, box := "*nn|1|x0|*nn|;", "!2.n|1|x0|!2.n|;"
	checkSteps(t, []stepCase{
		{"bound 2", pair + "n n *nn|1 1 0|add(x0,x1)|n|", "*nn|1|split:1(x0,add(x0,x1))|n|0 1", true},
		{"bound 2", pair + "n n *nn|1 1 0|add(x0,x1)|n|", "*nn|0|split:1(x0,add(x0,x1))|n|0 1", false},
		{"bound 2", pair + "n n *nn|1 1 0|add(x0,x1)|n|", "*nn|1|split:1(x0,add(x0,x1))|*nn|0 1", false},
		{"bound 2", pair + "n n *nn|1 1 0|add(x0,x1)|n|", "*nn|1|split:1(x0,add(x0,x1))|n|1 0", false},
		{"bound 2", pair + "n n *nn|1 1 0|add(x0,x1)|n|", "*nn|1|split:2(x0,add(x0,x1))|n|0 1", false},
		{"bound 2", pair + "n n *nn|1 1 0|add(x0,x1)|n|", "*nn|2|split:2(x0,add(x0,x1))|n|0 1", true},
		{"bound 2", pair + "n n *nn|1 1 0|add(x0,x1)|n|", "*nn|3|split:0(x0,add(x0,x1))|n|0 1", false},
		{"bound 2", pair + "n n *nn|0 0 0|1|n|", "*nn|3|split:0(x0,1)|n|0 1", false},
		{"count 2", pair + "n n *nn|0 0 0|1|n|", "*nn|2|split:2(x0,1)|n|0 1", false},
		{"count 2", pair + "n n *nn|0 0 0|1|n|", "*nn|3|split:3(x0,1)|n|0 1", true},
		{"count 2", pair + "n n *nn|0 0 0|1|n|", "*nn|1|split:1(x0,1)|n|0 1", false},
		{"count 2", pair + "n n *nn|1 0 0|x0|n|", "*nn|1|split:1(x0,x0)|n|0 1", false},
		{"count 2", pair + "n n *nn|0 1 0|x1|n|", "*nn|1|split:1(x0,x1)|n|0 1", false},
		{"count 2", pair + "n n *nn|1 1 0|x1|n|", "*nn|1|split:1(x0,x1)|n|0 1", true},
		// The budgets of the added variables are what is used.
		{"bound 2", pair + "n n *nn|2 1 0|add(x0,x1)|n|", "*nn|1|split:1(x0,add(x0,x1))|n|0 1", false},
		{"bound 2", pair + "n n *nn|1 2 0|add(x0,x1)|n|", "*nn|1|split:1(x0,add(x0,x1))|n|0 1", false},
		{"bound 2", pair + "n n *nn|2 2 0|add(x0,x1)|n|", "*nn|2|split:2(x0,add(x0,x1))|n|0 1", true},
		{"bound 2", pair + "n n *nn|0 0 0|add(x0,x1)|n|", "*nn|1|split:1(x0,add(x0,x1))|n|0 1", true},
		{"bound 2", "*nn|2|x0|*nn|;n n *nn|2 1 1|add(x0,x1)|n|", "*nn|3|split:2(x0,add(x0,x1))|n|0 1", true},
		{"bound 2", "*nn|1|x0|*nn|;n n *nn|2 1 1|add(x0,x1)|n|", "*nn|2|split:2(x0,add(x0,x1))|n|0 1", false},
		{"bound 2", "*nn n|1 1|x0|*nn|;n n *nn n|1 1 0 1|x3|n|", "*nn n|1 2|split:1(x0,x3)|n|0 1", true},
		{"bound 2", "*nn n|1 1|x0|*nn|;n n *nn n|1 1 0 1|x3|n|", "*nn n|1 1|split:1(x0,x3)|n|0 1", false},
		{"bound 2", "*nn n|1 1|x0|*nn|;n n *nn n|1 1 0 1|x3|n|", "*nn n|2 2|split:2(x0,x3)|n|0 1", false},
		{"bound 2", "*nn n|1 1|x0|*nn|;n n *nn n|1 1 0 1|x3|n|", "*nn n|2 3|split:2(x0,x3)|n|0 1", true},
		// The type of the second part stands first.
		{"bound 2", "*n!1.n|1|x0|*n!1.n|;!1.n n *n!1.n|0 1 0|x1|n|", "*n!1.n|1|split:1(x0,x1)|n|0 1", true},
		{"bound 2", "*n!1.n|1|x0|*n!1.n|;n !1.n *n!1.n|0 1 0|x1|!1.n|", "*n!1.n|1|split:1(x0,x1)|!1.n|0 1", false},
		{"bound 2", "*n!1.n|1|x0|*n!1.n|;!1.n *n!1.n|0 1|x1|*n!1.n|", "*n!1.n|1|split:1(x0,x1)|*n!1.n|0 1", false},
		{"bound 2", "*n!1.n|1|x0|*n!1.n|;*n!1.n !1.n n|0 1 0|x1|!1.n|", "*n!1.n|1|split:1(x0,x1)|!1.n|0 1", false},
		{"bound 2", "*nn|1|x0|*nn|;*nn n n|0 1 0|x1|n|", "*nn|1|split:1(x0,x1)|n|0 1", false},
		{"bound 2", "*nn|1|x0|*nn|;n *nn n|1 0 0|x0|n|", "*nn|1|split:1(x0,x0)|n|0 1", false},
		{"bound 2", "*nn|1|x0|*nn|;n n n *nn|1 0 0 0|x0|n|", "*nn|1|split:1(x0,x0)|n|0 1", false},
		{"bound 2", "*nn|1|x0|*nn|;*nn|1|x0|n|", "*nn|1|split:1(x0,x0)|n|0 1", false},
		{"bound 2", "*nn|1|x0|*nn|;n n|1 0|x0|n|", "*nn|1|split:1(x0,x0)|n|0 1", false},
		// It is the type of the judgment of the pair, whatever type the pair has.
		{"bound 2", "n|1|x0|*n!1.n|;!1.n n n|1 0 0|x0|!1.n|", "n|1|split:1(x0,x0)|!1.n|0 1", true},
		{"bound 2", "*nn|1|x0|*n!1.n|;!1.n n *nn|1 0 0|x0|!1.n|", "*nn|1|split:1(x0,x0)|!1.n|0 1", true},
		{"bound 2", "*nn|1|x0|*n!1.n|;n n *nn|1 0 0|x0|n|", "*nn|1|split:1(x0,x0)|n|0 1", false},
		{"bound 2", "*nn|1|x0|n|;n n *nn|1 0 0|x0|n|", "*nn|1|split:1(x0,x0)|n|0 1", false},
		{"bound 2", "*nn|1|x0|+nn|;n n *nn|1 0 0|x0|n|", "*nn|1|split:1(x0,x0)|n|0 1", false},
		{"bound 2", "*nn|1|x0|!1.n|;n *nn|1 0|x0|n|", "*nn|1|split:1(x0,x0)|n|0 1", false},
		{"bound 2", pair + "n n *nn|1 0 0|x0|!1.n|", "*nn|1|split:1(x0,x0)|!1.n|0 1", true},
		{"bound 2", pair + "n n *nn|1 0 0|x0|!1.n|", "*nn|1|split:1(x0,x0)|n|0 1", false},
		{"bound 2", box + "n !2.n|1 0|x0|n|", "!2.n|1|open:1(x0,x0)|n|0 1", true},
		{"bound 2", box + "n !2.n|1 0|x0|n|", "!2.n|0|open:1(x0,x0)|n|0 1", false},
		{"bound 2", box + "n !2.n|1 0|x0|n|", "!2.n|1|open:1(x0,x0)|!2.n|0 1", false},
		{"bound 2", box + "n !2.n|1 0|x0|n|", "!2.n|2|open:2(x0,x0)|n|0 1", true},
		{"bound 2", box + "n !2.n|1 0|x0|n|", "!2.n|1|open:2(x0,x0)|n|0 1", false},
		{"bound 2", box + "n !2.n|0 0|x0|n|", "!2.n|1|open:0(x0,x0)|n|0 1", false},
		{"bound 2", "!2.n|2|x0|!2.n|;n !2.n|1 1|x0|n|", "!2.n|3|open:1(x0,x0)|n|0 1", true},
		{"bound 2", "!2.n|2|x0|!2.n|;n !2.n|1 1|x0|n|", "!2.n|2|open:1(x0,x0)|n|0 1", false},
		// What is used may be N times the grade of the box.
		{"bound 2", box + "n !2.n|2 0|add(x0,x0)|n|", "!2.n|1|open:1(x0,add(x0,x0))|n|0 1", true},
		{"bound 2", box + "n !2.n|3 0|add(x0,x0)|n|", "!2.n|1|open:1(x0,add(x0,x0))|n|0 1", false},
		{"bound 2", box + "n !2.n|3 0|add(x0,x0)|n|", "!2.n|2|open:2(x0,add(x0,x0))|n|0 1", true},
		{"bound 5", box + "n !2.n|4 0|add(x0,x0)|n|", "!2.n|2|open:2(x0,add(x0,x0))|n|0 1", true},
		{"bound 5", box + "n !2.n|5 0|add(x0,x0)|n|", "!2.n|2|open:2(x0,add(x0,x0))|n|0 1", false},
		{"bound 2", "!0.n|1|x0|!0.n|;n !0.n|0 0|1|n|", "!0.n|1|open:1(x0,1)|n|0 1", true},
		{"bound 2", "!0.n|1|x0|!0.n|;n !0.n|1 0|1|n|", "!0.n|1|open:1(x0,1)|n|0 1", false},
		{"bound 2", "!0.n|1|x0|!0.n|;n !0.n|1 0|1|n|", "!0.n|3|open:3(x0,1)|n|0 1", false},
		{"count 2", box + "n !2.n|1 0|x0|n|", "!2.n|1|open:1(x0,x0)|n|0 1", false},
		{"count 2", box + "n !2.n|2 0|x0|n|", "!2.n|1|open:1(x0,x0)|n|0 1", true},
		{"count 2", box + "n !2.n|2 0|x0|n|", "!2.n|3|open:3(x0,x0)|n|0 1", true},
		{"count 2", box + "n !2.n|2 0|x0|n|", "!2.n|2|open:2(x0,x0)|n|0 1", false},
		// It is the grade in the type of the judgment of the box.
		{"bound 2", "!2.n|1|x0|!1.n|;n !2.n|2 0|x0|n|", "!2.n|1|open:1(x0,x0)|n|0 1", false},
		{"bound 2", "!1.n|1|x0|!2.n|;n !1.n|2 0|x0|n|", "!1.n|1|open:1(x0,x0)|n|0 1", true},
		{"bound 2", "n|1|x0|!2.+nn|;+nn n|1 0|x0|+nn|", "n|1|open:1(x0,x0)|+nn|0 1", true},
		{"bound 2", "n|1|x0|!2.+nn|;n n|1 0|x0|n|", "n|1|open:1(x0,x0)|n|0 1", false},
		{"bound 2", "!2.n|1|x0|n|;n !2.n|1 0|x0|n|", "!2.n|1|open:1(x0,x0)|n|0 1", false},
		{"bound 2", "!2.n|1|x0|*nn|;n n !2.n|1 0 0|x0|n|", "!2.n|1|open:1(x0,x0)|n|0 1", false},
		{"bound 2", "!2.n|1|x0|>2.nn|;n !2.n|1 0|x0|n|", "!2.n|1|open:1(x0,x0)|n|0 1", false},
		{"bound 2", box + "!2.n n|0 1|x1|n|", "!2.n|1|open:1(x0,x1)|n|0 1", false},
		{"bound 2", box + "!2.n|1|x0|n|", "!2.n|1|open:1(x0,x0)|n|0 1", false},
		{"bound 2", box + "n|1|x0|n|", "!2.n|1|open:1(x0,x0)|n|0 1", false},
		{"bound 2", box + "n !2.n|1 0|x0|!1.n|", "!2.n|1|open:1(x0,x0)|!1.n|0 1", true},
	})
}

func TestStepsOfSidesAndCase(t *testing.T) {
	sum := "+n!1.n|1|x0|+n!1.n|;"
	first, second := "n +n!1.n|1 0|x0|n|;", "!1.n +n!1.n|1 0|2|n|;"
	checkSteps(t, []stepCase{
		{"bound 2", "n|1|x0|n|", "n|1|left:!1.n(x0)|+n!1.n|0", true},
		{"bound 2", "n|1|x0|n|", "n|0|left:!1.n(x0)|+n!1.n|0", false},
		{"bound 2", "n|1|x0|n|", "n|1|left:!1.n(x0)|+!1.nn|0", false},
		{"bound 2", "n|1|x0|n|", "n|1|left:!1.n(x0)|+nn|0", false},
		{"bound 2", "n|2|x0|n|", "n|2|left:!1.n(x0)|+n!1.n|0", true},
		{"bound 2", "n|2|x0|n|", "n|1|left:!1.n(x0)|+n!1.n|0", false},
		{"bound 2", "n|1|x0|!2.n|", "n|1|left:!1.n(x0)|+!2.n!1.n|0", true},
		{"bound 2", "n|1|x0|!2.n|", "n|1|left:!1.n(x0)|+n!1.n|0", false},
		{"bound 2", "n|1|x0|n|", "n|1|right:!1.n(x0)|+!1.nn|0", true},
		{"bound 2", "n|1|x0|n|", "n|0|right:!1.n(x0)|+!1.nn|0", false},
		{"bound 2", "n|1|x0|n|", "n|1|right:!1.n(x0)|+n!1.n|0", false},
		{"bound 2", "n|1|x0|n|", "n|1|right:!1.n(x0)|*!1.nn|0", false},
		{"bound 2", "n|3|x0|n|", "n|3|right:!1.n(x0)|+!1.nn|0", true},
		{"bound 2", "n|3|x0|n|", "n|2|right:!1.n(x0)|+!1.nn|0", false},
		{"bound 2", "n|1|x0|!2.n|", "n|1|right:!1.n(x0)|+!1.n!2.n|0", true},
		{"bound 2", sum + first + second, "+n!1.n|1|case:1(x0,x0,2)|n|0 1 2", true},
		{"bound 2", sum + first + second, "+n!1.n|0|case:1(x0,x0,2)|n|0 1 2", false},
		{"bound 2", sum + first + second, "+n!1.n|1|case:1(x0,x0,2)|!1.n|0 1 2", false},
		{"bound 2", sum + first + second, "+n!1.n|1|case:1(x0,x0,2)|n|0 2 1", false},
		{"bound 2", sum + first + second, "+n!1.n|2|case:2(x0,x0,2)|n|0 1 2", true},
		{"bound 2", sum + first + second, "+n!1.n|1|case:2(x0,x0,2)|n|0 1 2", false},
		{"bound 2", sum + first + second, "+n!1.n|1|case:0(x0,x0,2)|n|0 1 2", false},
		{"bound 2", sum + "n +n!1.n|0 0|1|n|;!1.n +n!1.n|0 0|2|n|", "+n!1.n|3|case:0(x0,1,2)|n|0 1 2", false},
		{"count 2", sum + "n +n!1.n|3 0|1|n|;!1.n +n!1.n|0 0|2|n|", "+n!1.n|3|case:3(x0,1,2)|n|0 1 2", true},
		{"count 2", sum + "n +n!1.n|2 0|1|n|;!1.n +n!1.n|2 0|2|n|", "+n!1.n|2|case:2(x0,1,2)|n|0 1 2", false},
		{"count 2", sum + "n +n!1.n|1 0|1|n|;!1.n +n!1.n|1 0|2|n|", "+n!1.n|1|case:1(x0,1,2)|n|0 1 2", true},
		{"count 2", sum + "n +n!1.n|1 0|1|n|;!1.n +n!1.n|0 0|2|n|", "+n!1.n|1|case:1(x0,1,2)|n|0 1 2", false},
		{"count 2", sum + "n +n!1.n|0 0|1|n|;!1.n +n!1.n|1 0|2|n|", "+n!1.n|1|case:1(x0,1,2)|n|0 1 2", false},
		// The budgets of both added variables are what is used.
		{"bound 2", sum + "n +n!1.n|2 0|x0|n|;" + second, "+n!1.n|1|case:1(x0,x0,2)|n|0 1 2", false},
		{"bound 2", sum + first + "!1.n +n!1.n|2 0|2|n|", "+n!1.n|1|case:1(x0,x0,2)|n|0 1 2", false},
		{"bound 2", sum + "n +n!1.n|2 0|x0|n|;!1.n +n!1.n|2 0|2|n|", "+n!1.n|2|case:2(x0,x0,2)|n|0 1 2", true},
		{"bound 2", sum + "n +n!1.n|0 0|x0|n|;!1.n +n!1.n|0 0|2|n|", "+n!1.n|1|case:1(x0,x0,2)|n|0 1 2", true},
		// The budgets of both branches are joined, and added to N times those of the first kid.
		{"bound 5", "+nn|1|x0|+nn|;n +nn|1 2|x0|n|;n +nn|1 1|x0|n|", "+nn|3|case:1(x0,x0,x0)|n|0 1 2", true},
		{"bound 5", "+nn|1|x0|+nn|;n +nn|1 2|x0|n|;n +nn|1 1|x0|n|", "+nn|2|case:1(x0,x0,x0)|n|0 1 2", false},
		{"bound 5", "+nn|1|x0|+nn|;n +nn|1 2|x0|n|;n +nn|1 1|x0|n|", "+nn|2|case:1(x0,x0,x0)|n|0 2 2", true},
		{"bound 5", "+nn|1|x0|+nn|;n +nn|1 2|x0|n|;n +nn|1 1|x0|n|", "+nn|3|case:1(x0,x0,x0)|n|0 2 1", true},
		{"bound 5", "+nn|1|x0|+nn|;n +nn|1 2|x0|n|;n +nn|1 1|x0|n|", "+nn|4|case:2(x0,x0,x0)|n|0 1 2", true},
		{"bound 5", "+nn|1|x0|+nn|;n +nn|1 2|x0|n|;n +nn|1 1|x0|n|", "+nn|3|case:2(x0,x0,x0)|n|0 1 2", false},
		{"bound 5", "+nn|2|x0|+nn|;n +nn|1 1|x0|n|", "+nn|5|case:2(x0,x0,x0)|n|0 1 1", true},
		{"bound 5", "+nn|2|x0|+nn|;n +nn|1 1|x0|n|", "+nn|4|case:2(x0,x0,x0)|n|0 1 1", false},
		{"count 2", "+nn n|1 0|x0|+nn|;n +nn n|1 0 2|x0|n|;n +nn n|1 0 1|x0|n|", "+nn n|1 3|case:1(x0,x0,x0)|n|0 1 2", true},
		{"count 2", "+nn n|1 0|x0|+nn|;n +nn n|1 0 2|x0|n|;n +nn n|1 0 1|x0|n|", "+nn n|1 2|case:1(x0,x0,x0)|n|0 1 2", false},
		{"count 2", "+nn n|1 0|x0|+nn|;n +nn n|1 0 2|x0|n|;n +nn n|1 0 1|x0|n|", "+nn n|1 2|case:1(x0,x0,x0)|n|0 1 1", true},
		// The types of the added variables are those of the sides, each for its own kid.
		{"bound 2", sum + first + "n +n!1.n|1 0|2|n|", "+n!1.n|1|case:1(x0,x0,2)|n|0 1 2", false},
		{"bound 2", sum + "!1.n +n!1.n|1 0|x0|!1.n|;!1.n +n!1.n|1 0|x0|!1.n|", "+n!1.n|1|case:1(x0,x0,x0)|!1.n|0 1 2", false},
		{"bound 2", "+nn|1|x0|+nn|;+nn n|0 1|x1|n|", "+nn|1|case:1(x0,x1,x1)|n|0 1 1", false},
		{"bound 2", "+nn|1|x0|+nn|;+nn|1|x0|n|", "+nn|1|case:1(x0,x0,x0)|n|0 1 1", false},
		{"bound 2", "+nn|1|x0|+nn|;n +nn|1 0|x0|n|;+nn n|1 0|x0|n|", "+nn|1|case:1(x0,x0,x0)|n|0 1 2", false},
		{"bound 2", "+nn|1|x0|+nn|;n +nn|1 0|x0|n|;+nn n|1 0|x0|n|", "+nn|1|case:1(x0,x0,x0)|n|0 2 1", false},
		{"bound 2", "+nn|1|x0|+nn|;n +nn|1 0|x0|n|;+nn n|1 0|x0|n|", "+nn|1|case:1(x0,x0,x0)|n|0 1 1", true},
		{"bound 2", "n|1|x0|+n!1.n|;n n|1 0|x0|n|;!1.n n|1 0|x0|n|", "n|1|case:1(x0,x0,x0)|n|0 1 2", true},
		{"bound 2", "+nn|1|x0|+n!1.n|;n +nn|1 0|x0|n|;!1.n +nn|1 0|x0|n|", "+nn|1|case:1(x0,x0,x0)|n|0 1 2", true},
		{"bound 2", "+nn|1|x0|+n!1.n|;n +nn|1 0|x0|n|", "+nn|1|case:1(x0,x0,x0)|n|0 1 1", false},
		{"bound 2", "+nn|1|x0|*nn|;n +nn|1 0|x0|n|", "+nn|1|case:1(x0,x0,x0)|n|0 1 1", false},
		{"bound 2", "+nn|1|x0|n|;n +nn|1 0|x0|n|", "+nn|1|case:1(x0,x0,x0)|n|0 1 1", false},
		{"bound 2", "+nn|1|x0|!1.n|;n +nn|1 0|x0|n|", "+nn|1|case:1(x0,x0,x0)|n|0 1 1", false},
		// Both branches have one type.
		{"bound 2", sum + first + "!1.n +n!1.n|1 0|2|!1.n|", "+n!1.n|1|case:1(x0,x0,2)|n|0 1 2", false},
		{"bound 2", sum + "n +n!1.n|1 0|x0|!1.n|;" + second, "+n!1.n|1|case:1(x0,x0,2)|n|0 1 2", false},
		{"bound 2", sum + "n +n!1.n|1 0|x0|!1.n|;!1.n +n!1.n|1 0|2|!1.n|", "+n!1.n|1|case:1(x0,x0,2)|!1.n|0 1 2", true},
		{"bound 2", sum + first + "!1.n +n!1.n|1 0|x0|!1.n|", "+n!1.n|1|case:1(x0,x0,x0)|n|0 1 2", false},
	})
}

func TestStepsOfFunctionsAndBoxes(t *testing.T) {
	function, number := ">2.nn n|1 0|x0|>2.nn|;", ">2.nn n|0 1|x1|n|;"
	checkSteps(t, []stepCase{
		{"bound 2", "n|1|x0|n|", "||fun:1:n(x0)|>1.nn|0", true},
		{"bound 2", "n|1|x0|n|", "||fun:2:n(x0)|>2.nn|0", true},
		{"bound 2", "n|1|x0|n|", "||fun:2:n(x0)|>1.nn|0", false},
		{"bound 2", "n|1|x0|n|", "||fun:1:n(x0)|>2.nn|0", false},
		{"bound 2", "n|1|x0|n|", "||fun:1:n(x0)|n|0", false},
		{"bound 2", "n|1|x0|n|", "||fun:0:n(x0)|>0.nn|0", false},
		{"bound 2", "n|2|x0|n|", "||fun:1:n(x0)|>1.nn|0", false},
		{"bound 2", "n|2|x0|n|", "||fun:2:n(x0)|>2.nn|0", true},
		{"bound 2", "n|0|x0|n|", "||fun:0:n(x0)|>0.nn|0", true},
		{"count 2", "n|1|x0|n|", "||fun:2:n(x0)|>2.nn|0", false},
		{"count 2", "n|2|x0|n|", "||fun:2:n(x0)|>2.nn|0", true},
		{"count 2", "n|2|x0|n|", "||fun:3:n(x0)|>3.nn|0", true},
		{"bound 2", "!1.n n|1 1|add(x0,x1)|n|", "n|1|fun:1:!1.n(add(x0,x1))|>1.!1.nn|0", true},
		{"bound 2", "!1.n n|1 1|add(x0,x1)|n|", "n|0|fun:1:!1.n(add(x0,x1))|>1.!1.nn|0", false},
		{"bound 2", "!1.n n|1 2|add(x0,x1)|n|", "n|1|fun:1:!1.n(add(x0,x1))|>1.!1.nn|0", false},
		{"bound 2", "!1.n n|1 2|add(x0,x1)|n|", "n|2|fun:1:!1.n(add(x0,x1))|>1.!1.nn|0", true},
		{"bound 2", "!1.n n|1 2|add(x0,x1)|!2.n|", "n|2|fun:1:!1.n(add(x0,x1))|>1.!1.n!2.n|0", true},
		{"bound 2", "!1.n n|1 2|add(x0,x1)|!2.n|", "n|2|fun:1:!1.n(add(x0,x1))|>1.!1.nn|0", false},
		{"bound 2", "n !1.n|1 1|add(x0,x1)|n|", "n|1|fun:1:!1.n(add(x0,x1))|>1.!1.nn|0", false},
		{"bound 2", "n n|1 1|add(x0,x1)|n|", "n|1|fun:1:!1.n(add(x0,x1))|>1.!1.nn|0", false},
		{"bound 2", "n|1|x0|n|", "n|1|fun:1:n(x0)|>1.nn|0", false},
		{"bound 2", "n n|1 0|x0|n|", "n|0|fun:1:n(x0)|>1.nn|0", true},
		{"bound 2", "n n n|1 0 0|x0|n|", "n|0|fun:1:n(x0)|>1.nn|0", false},
		{"bound 2", function + number, ">2.nn n|1 2|app(x0,x1)|n|0 1", true},
		{"bound 2", function + number, ">2.nn n|1 1|app(x0,x1)|n|0 1", false},
		{"bound 2", function + number, ">2.nn n|0 2|app(x0,x1)|n|0 1", false},
		{"bound 2", function + number, ">2.nn n|1 2|app(x0,x1)|>2.nn|0 1", false},
		{"bound 2", function + number, ">2.nn n|1 2|app(x0,x1)|n|1 0", false},
		{"bound 5", function + ">2.nn n|0 2|x1|n|", ">2.nn n|1 4|app(x0,x1)|n|0 1", true},
		{"bound 5", function + ">2.nn n|0 2|x1|n|", ">2.nn n|1 3|app(x0,x1)|n|0 1", false},
		{"bound 5", ">2.nn n|3 1|x0|>2.nn|;" + number, ">2.nn n|3 3|app(x0,x1)|n|0 1", true},
		{"bound 5", ">2.nn n|3 1|x0|>2.nn|;" + number, ">2.nn n|3 2|app(x0,x1)|n|0 1", false},
		{"bound 5", ">2.nn n|3 1|x0|>2.nn|;" + number, ">2.nn n|2 3|app(x0,x1)|n|0 1", false},
		{"bound 2", ">0.nn n|1 0|x0|>0.nn|;>0.nn n|0 3|x1|n|", ">0.nn n|1 0|app(x0,x1)|n|0 1", true},
		{"level 2", ">2.nn n|1 0|x0|>2.nn|;>2.nn n|0 1|x1|n|", ">2.nn n|1 2|app(x0,x1)|n|0 1", true},
		{"level 2", ">2.nn n|1 0|x0|>2.nn|;>2.nn n|0 1|x1|n|", ">2.nn n|1 0|app(x0,x1)|n|0 1", false},
		// The grade and both types are those in the type of the first judgment.
		{"bound 2", ">2.nn n|1 0|x0|>1.nn|;" + number, ">2.nn n|1 1|app(x0,x1)|n|0 1", true},
		{"bound 2", ">2.nn n|1 0|x0|>3.nn|;" + number, ">2.nn n|1 2|app(x0,x1)|n|0 1", false},
		{"bound 2", ">2.nn n|1 0|x0|>2.n!1.n|;" + number, ">2.nn n|1 2|app(x0,x1)|!1.n|0 1", true},
		{"bound 2", ">2.nn n|1 0|x0|>2.n!1.n|;" + number, ">2.nn n|1 2|app(x0,x1)|n|0 1", false},
		{"bound 2", ">2.nn n|1 0|x0|>2.!1.nn|;" + number, ">2.nn n|1 2|app(x0,x1)|n|0 1", false},
		{"bound 2", function + ">2.nn n|0 1|x1|!1.n|", ">2.nn n|1 2|app(x0,x1)|n|0 1", false},
		{"bound 2", ">2.nn n|1 0|x0|>2.!1.nn|;>2.nn n|0 1|x1|!1.n|", ">2.nn n|1 2|app(x0,x1)|n|0 1", true},
		{"bound 2", ">2.nn n|1 0|x0|n|;" + number, ">2.nn n|1 2|app(x0,x1)|n|0 1", false},
		{"bound 2", ">2.nn n|1 0|x0|*nn|;" + number, ">2.nn n|1 2|app(x0,x1)|n|0 1", false},
		{"bound 2", ">2.nn n|1 0|x0|!2.n|;" + number, ">2.nn n|1 2|app(x0,x1)|n|0 1", false},
		{"bound 2", ">2.nn|1|x0|>2.nn|;" + number, ">2.nn n|1 2|app(x0,x1)|n|0 1", false},
		{"bound 2", "n|1|x0|n|", "n|1|box:1(x0)|!1.n|0", true},
		{"bound 2", "n|1|x0|n|", "n|2|box:1(x0)|!1.n|0", true},
		{"bound 2", "n|1|x0|n|", "n|0|box:1(x0)|!1.n|0", false},
		{"bound 2", "n|1|x0|n|", "n|2|box:2(x0)|!2.n|0", true},
		{"bound 2", "n|1|x0|n|", "n|1|box:2(x0)|!2.n|0", false},
		{"bound 2", "n|1|x0|n|", "n|2|box:2(x0)|!1.n|0", false},
		{"bound 2", "n|1|x0|n|", "n|2|box:2(x0)|n|0", false},
		{"bound 2", "n|3|x0|n|", "n|0|box:0(x0)|!0.n|0", true},
		{"bound 5", "n|2|x0|n|", "n|4|box:2(x0)|!2.n|0", true},
		{"bound 5", "n|2|x0|n|", "n|2|box:2(x0)|!2.n|0", false},
		{"bound 5", "n|2|x0|n|", "n|3|box:2(x0)|!2.n|0", false},
		{"bound 2", "n|1|x0|*nn|", "n|1|box:1(x0)|!1.*nn|0", true},
		{"bound 2", "n|1|x0|*nn|", "n|1|box:1(x0)|!1.n|0", false},
		{"count 2", "n|1|x0|n|", "n|3|box:2(x0)|!2.n|0", true},
		{"count 2", "n|1|x0|n|", "n|1|box:2(x0)|!2.n|0", false},
		{"level 2", "n|1|x0|n|", "n|2|box:2(x0)|!2.n|0", true},
		{"level 2", "n|1|x0|n|", "n|1|box:2(x0)|!2.n|0", true},
		{"level 2", "n|1|x0|n|", "n|0|box:2(x0)|!2.n|0", false},
		{"level 2", "n|2|x0|n|", "n|2|box:1(x0)|!1.n|0", true},
		{"count 1*level 1", "n|2|x0|n|", "n|0|box:3(x0)|!3.n|0", true},
		{"count 1*level 1", "n|1|x0|n|", "n|1|box:3(x0)|!3.n|0", true},
		{"count 1*level 1", "n|1|x0|n|", "n|2|box:3(x0)|!3.n|0", false},
	})
}

// TestStepsInAskewSystems looks at the order of factors, which matters where products do not commute.
func TestStepsInAskewSystems(t *testing.T) {
	s := systemOf(t, "askew")
	seen := 0
	for a := range s.Size {
		for b := range s.Size {
			ab, ba := s.Times[a*s.Size+b], s.Times[b*s.Size+a]
			if ab == ba {
				continue
			}
			seen++
			n := []int{0}
			kid := impl.Judgment{Ctx: [][]int{n}, Budgets: []int{b}, Term: variableTerm(0), Type: n}
			box := impl.Term{Op: impl.TmBox, N: a, Kids: []impl.Term{variableTerm(0)}}
			for g := range s.Size {
				j := impl.Judgment{Ctx: kid.Ctx, Budgets: []int{g}, Term: box, Type: []int{19 + a, 0}, From: []int{0}}
				if got := impl.StepHolds(s, []impl.Judgment{kid, j}, 1); got != s.Below[ab*s.Size+g] {
					t.Errorf("a box %d of what needs %d is said to need no more than %d: %v", a, b, g, got)
				}
			}
			if s.Below[1*s.Size+a] {
				checkAskewOpen(t, s, a, b)
			}
		}
	}
	if seen == 0 {
		t.Error("all products commute")
	}
}

// checkAskewOpen opens a box of the grade b with the grade a.
func checkAskewOpen(t *testing.T, s impl.System, a, b int) {
	t.Helper()
	n, box := []int{0}, []int{19 + b, 0}
	for used := range s.Size {
		first := impl.Judgment{Ctx: [][]int{box}, Budgets: []int{0}, Term: variableTerm(0), Type: box}
		second := impl.Judgment{Ctx: [][]int{n, box}, Budgets: []int{used, 0}, Term: variableTerm(0), Type: n}
		open := impl.Term{Op: impl.TmOpen, N: a, Kids: []impl.Term{variableTerm(0), variableTerm(0)}}
		j := impl.Judgment{Ctx: [][]int{box}, Budgets: []int{0}, Term: open, Type: n, From: []int{0, 1}}
		want := s.Below[used*s.Size+s.Times[a*s.Size+b]]
		if got := impl.StepHolds(s, []impl.Judgment{first, second, j}, 2); got != want {
			t.Errorf("%d is said to be within %d times %d: %v", used, a, b, got)
		}
	}
}

// TestStepsAndTheLengthOfTypes looks at types of just so many codes as there may be, and of one more.
func TestStepsAndTheLengthOfTypes(t *testing.T) {
	s := impl.BoundSystem(2)
	of := func(codes int) []int { return append(slices.Repeat([]int{20}, codes-1), 0) }
	judgment := func(x impl.Term, ty []int, from ...int) impl.Judgment {
		return impl.Judgment{Ctx: [][]int{{0}}, Budgets: []int{0}, Term: x, Type: ty, From: from}
	}
	one, two := numberTerm(1), numberTerm(2)
	for _, n := range []int{1, 2, 20, 37, 38, 39, 40} {
		a, rest := judgment(one, of(n)), 39-n
		for _, m := range []int{rest - 1, rest, rest + 1, rest + 2} {
			if m < 1 || m > 40 {
				continue
			}
			b := judgment(two, of(m))
			typed := func(op int, kid impl.Term) impl.Term {
				return impl.Term{Op: op, Type: of(m), Kids: []impl.Term{kid}}
			}
			last := map[string]impl.Judgment{
				"pair":  judgment(leastTerm(impl.TmPair, one, two), slices.Concat([]int{1}, of(n), of(m)), 0, 1),
				"left":  judgment(typed(impl.TmLeft, one), slices.Concat([]int{2}, of(n), of(m)), 0),
				"right": judgment(typed(impl.TmRight, one), slices.Concat([]int{2}, of(m), of(n)), 0),
				"fun":   judgment(typed(impl.TmFun, one), slices.Concat([]int{3}, of(m), of(n)), 2),
			}
			under := a
			under.Ctx, under.Budgets = [][]int{of(m), {0}}, []int{0, 0}
			for name, j := range last {
				l := []impl.Judgment{a, b, under, j}
				if got := impl.StepHolds(s, l, 3); got != (n+m < 40) {
					t.Errorf("%s of types of %d and %d codes: %v", name, n, m, got)
				}
				// No other type makes up for it.
				l[3].Type = l[3].Type[:1]
				if impl.StepHolds(s, l, 3) {
					t.Errorf("%s of types of %d and %d codes holds with a part of a type", name, n, m)
				}
				l[3].Type = []int{0}
				if impl.StepHolds(s, l, 3) {
					t.Errorf("%s of types of %d and %d codes holds as a number", name, n, m)
				}
			}
		}
		box := judgment(leastTerm(impl.TmBox, one), append([]int{20}, of(n)...), 0)
		if got := impl.StepHolds(s, []impl.Judgment{a, box}, 1); got != (n < 40) {
			t.Errorf("box of a type of %d codes: %v", n, got)
		}
		// Where the row has no such condition, a type of 40 codes is as good as others.
		same := judgment(leastTerm(impl.TmIf, two, one, one), of(n), 1, 0, 0)
		if !impl.StepHolds(s, []impl.Judgment{a, judgment(two, []int{0}), same}, 2) {
			t.Errorf("if of a type of %d codes does not hold", n)
		}
	}
	for _, codes := range []int{40, 41} {
		j := judgment(one, of(codes))
		if impl.IsJudgment(s, j) != (codes == 40) {
			t.Errorf("IsJudgment is wrong of a type of %d codes", codes)
		}
		j = judgment(variableTerm(0), of(codes))
		j.Ctx, j.Budgets = [][]int{of(codes)}, []int{1}
		if impl.IsJudgment(s, j) != (codes == 40) || impl.StepHolds(s, []impl.Judgment{j}, 0) != (codes == 40) {
			t.Errorf("a variable of a type of %d codes is judged wrong", codes)
		}
	}
}
