package tests

import (
	"reflect"
	"strings"
	"testing"

	"loop.example/g03111/impl"
)

// inference is a term and what InferGrades returns for it.
type inference struct{ text, want string }

func checkInferences(t *testing.T, name string, l []inference) {
	t.Helper()
	s := systemOf(t, name)
	for _, c := range l {
		x := parsed(t, c.text)
		if got := inferred(t, s, x); got != c.want {
			t.Errorf("%s: InferGrades of %s is %s, not %s", name, c.text, got, c.want)
		}
		if got := slowInfer(s, x); got != c.want {
			t.Errorf("%s: the second way of %s is %s, not %s", name, c.text, got, c.want)
		}
	}
}

func TestInferOnePlace(t *testing.T) {
	checkInferences(t, "bound 2", []inference{
		{"fun:?:n(add(x0,x0))", "fun:2:n(add(x0,x0))"},
		{"fun:?:n(x0)", "fun:1:n(x0)"},
		{"fun:?:n(add(x0,add(x0,x0)))", "fun:3:n(add(x0,add(x0,x0)))"},
		{"fun:?:n(add(add(x0,x0),add(x0,x0)))", "fun:3:n(add(add(x0,x0),add(x0,x0)))"},
		{"fun:?:n(if(x0,x0,add(x0,x0)))", "fun:3:n(if(x0,x0,add(x0,x0)))"},
		{"fun:?:n(if(0,x0,add(x0,x0)))", "fun:2:n(if(0,x0,add(x0,x0)))"},
		{"fun:?:n(box:2(x0))", "fun:2:n(box:2(x0))"},
		{"fun:?:n(box:0(x0))", "fun:0:n(box:0(x0))"},
		{"open:1(box:?(1),add(x0,x0))", "open:1(box:2(1),add(x0,x0))"},
		// Nothing tells these.
		{"fun:?:n(0)", "fun:0:n(0)"},
		{"box:?(1)", "box:0(1)"},
		{"open:1(box:?(1),0)", "open:1(box:0(1),0)"},
		{"left:>?.n!?.n(1)", "left:>0.n!0.n(1)"},
		{"right:!?.>?.nn(1)", "right:!0.>0.nn(1)"},
		{"fun:1:>?.nn(app(x0,1))", "fun:1:>0.nn(app(x0,1))"},
		// 1 must be below the grade of a split and of a case.
		{"split:?(pair(1,2),0)", "split:1(pair(1,2),0)"},
		{"split:?(pair(1,2),add(x0,x1))", "split:1(pair(1,2),add(x0,x1))"},
		{"split:?(pair(1,2),add(x1,add(x0,x1)))", "split:2(pair(1,2),add(x1,add(x0,x1)))"},
		{"split:?(pair(1,2),add(x0,add(x0,x1)))", "split:2(pair(1,2),add(x0,add(x0,x1)))"},
		{"case:?(left:n(1),0,0)", "case:1(left:n(1),0,0)"},
		{"case:?(left:n(1),0,add(x0,x0))", "case:2(left:n(1),0,add(x0,x0))"},
		{"case:?(right:n(1),add(x0,x0),0)", "case:2(right:n(1),add(x0,x0),0)"},
		{"case:?(right:n(1),add(x0,x0),add(x0,add(x0,x0)))", "case:3(right:n(1),add(x0,x0),add(x0,add(x0,x0)))"},
		{"split:0(pair(1,2),0)", "fails"},
		{"case:0(left:n(1),0,0)", "fails"},
		// What is not open stays, if it suffices.
		{"fun:3:n(x0)", "fun:3:n(x0)"},
		{"fun:1:n(x0)", "fun:1:n(x0)"},
		{"fun:0:n(x0)", "fails"},
		{"fun:1:n(add(x0,x0))", "fails"},
		{"0", "0"},
		{"pair(fun:?:n(x0),fun:0:n(x0))", "fails"},
		{"open:1(box:1(1),add(x0,x0))", "fails"},
		{"open:1(box:2(1),add(x0,x0))", "open:1(box:2(1),add(x0,x0))"},
		{"split:1(pair(1,2),add(x0,x0))", "fails"},
		{"case:1(left:n(1),0,add(x0,x0))", "fails"},
	})
}

// TestInferSamePlaces has places that are made one because types must be the same.
func TestInferSamePlaces(t *testing.T) {
	checkInferences(t, "bound 2", []inference{
		// An argument and what an arrow goes from.
		{"app(fun:1:>?.nn(app(x0,1)),fun:?:n(add(x0,x0)))", "app(fun:1:>2.nn(app(x0,1)),fun:2:n(add(x0,x0)))"},
		{"app(fun:?:>?.nn(app(x0,1)),fun:2:n(x0))", "app(fun:1:>2.nn(app(x0,1)),fun:2:n(x0))"},
		{"app(fun:?:>3.nn(app(x0,1)),fun:?:n(x0))", "app(fun:1:>3.nn(app(x0,1)),fun:3:n(x0))"},
		{"app(fun:?:>0.nn(app(x0,1)),fun:?:n(0))", "app(fun:1:>0.nn(app(x0,1)),fun:0:n(0))"},
		{"app(fun:?:>1.nn(app(x0,1)),fun:?:n(add(x0,x0)))", "fails"},
		{"app(fun:?:>1.nn(app(x0,1)),fun:2:n(x0))", "fails"},
		{"app(fun:?:!?.n(open:1(x0,x0)),box:?(1))", "app(fun:1:!1.n(open:1(x0,x0)),box:1(1))"},
		{"app(fun:?:!?.n(0),box:2(1))", "app(fun:0:!2.n(0),box:2(1))"},
		{"app(fun:?:*!?.n>?.nn(0),pair(box:3(1),fun:?:n(x0)))", "app(fun:0:*!3.n>1.nn(0),pair(box:3(1),fun:1:n(x0)))"},
		// Branches of an if.
		{"if(0,fun:?:n(0),fun:?:n(x0))", "if(0,fun:1:n(0),fun:1:n(x0))"},
		{"if(0,fun:?:n(add(x0,x0)),fun:?:n(x0))", "if(0,fun:2:n(add(x0,x0)),fun:2:n(x0))"},
		{"if(0,fun:?:n(x0),fun:2:n(0))", "if(0,fun:2:n(x0),fun:2:n(0))"},
		{"if(0,fun:0:n(0),fun:?:n(x0))", "fails"},
		{"if(0,fun:0:n(0),fun:1:n(0))", "fails"},
		{"if(0,box:?(1),box:?(2))", "if(0,box:0(1),box:0(2))"},
		{"if(0,if(0,fun:?:n(0),fun:?:n(x0)),if(0,fun:?:n(0),fun:2:n(0)))", "if(0,if(0,fun:2:n(0),fun:2:n(x0)),if(0,fun:2:n(0),fun:2:n(0)))"},
		{"if(0,if(0,fun:?:n(0),fun:1:n(0)),if(0,fun:?:n(0),fun:2:n(0)))", "fails"},
		{"if(0,if(0,fun:1:n(0),fun:?:n(0)),if(0,fun:?:n(0),fun:1:n(0)))", "if(0,if(0,fun:1:n(0),fun:1:n(0)),if(0,fun:1:n(0),fun:1:n(0)))"},
		// One after the other is made one with those ahead of it, and the first one is known, or the last one.
		{"if(0,box:3(0),if(0,box:?(0),if(0,box:?(0),if(0,box:?(0),box:?(0)))))", "if(0,box:3(0),if(0,box:3(0),if(0,box:3(0),if(0,box:3(0),box:3(0)))))"},
		{"if(0,box:?(0),if(0,box:?(0),if(0,box:?(0),if(0,box:?(0),box:3(0)))))", "if(0,box:3(0),if(0,box:3(0),if(0,box:3(0),if(0,box:3(0),box:3(0)))))"},
		{"if(0,if(0,if(0,if(0,box:?(0),box:?(0)),box:?(0)),box:?(0)),box:3(0))", "if(0,if(0,if(0,if(0,box:3(0),box:3(0)),box:3(0)),box:3(0)),box:3(0))"},
		{
			"fun:?:!?.n(fun:?:!?.n(fun:?:!?.n(pair(if(0,x1,x0),pair(if(0,x2,x1),if(0,x0,box:3(0)))))))",
			"fun:1:!3.n(fun:2:!3.n(fun:2:!3.n(pair(if(0,x1,x0),pair(if(0,x2,x1),if(0,x0,box:3(0)))))))",
		},
		// Branches of a case.
		{"case:?(left:n(1),fun:?:n(0),fun:?:n(add(x0,x1)))", "case:1(left:n(1),fun:1:n(0),fun:1:n(add(x0,x1)))"},
		{"case:?(left:n(1),fun:?:n(add(x0,x0)),fun:?:n(add(x1,x1)))", "case:2(left:n(1),fun:2:n(add(x0,x0)),fun:2:n(add(x1,x1)))"},
		{"case:?(left:n(1),fun:1:n(0),fun:?:n(add(x0,x0)))", "fails"},
		// The other side of a sum.
		{"if(0,left:>?.nn(1),right:n(fun:?:n(x0)))", "if(0,left:>1.nn(1),right:n(fun:1:n(x0)))"},
		{"if(0,right:!?.n(1),left:n(box:2(0)))", "if(0,right:!2.n(1),left:n(box:2(0)))"},
		{"if(0,left:!2.n(1),right:n(box:?(0)))", "if(0,left:!2.n(1),right:n(box:2(0)))"},
		{"if(0,left:!?.>?.nn(1),left:!2.>?.nn(1))", "if(0,left:!2.>0.nn(1),left:!2.>0.nn(1))"},
		{"case:?(left:>?.nn(1),fun:1:n(x0),x0)", "case:1(left:>1.nn(1),fun:1:n(x0),x0)"},
		// A box that is opened.
		{"open:1(box:?(fun:?:n(x0)),app(x0,1))", "open:1(box:1(fun:1:n(x0)),app(x0,1))"},
		{"fun:?:!?.n(open:1(x0,add(x0,x0)))", "fun:1:!2.n(open:1(x0,add(x0,x0)))"},
		{"fun:?:!?.!?.n(open:1(x0,open:1(x0,add(x0,x0))))", "fun:1:!1.!2.n(open:1(x0,open:1(x0,add(x0,x0))))"},
		{"if(0,box:?(1),open:1(box:?(box:3(1)),x0))", "if(0,box:3(1),open:1(box:1(box:3(1)),x0))"},
		// What two branches use of variables is joined, and each may be of a function that is one with the other.
		{"fun:?:n(if(0,app(fun:?:n(x0),x0),app(fun:?:n(add(x0,x0)),x0)))", "fun:2:n(if(0,app(fun:1:n(x0),x0),app(fun:2:n(add(x0,x0)),x0)))"},
	})
}

// TestInferLatePlaces has places that only a later kid tells, and needs that have open grades themselves.
func TestInferLatePlaces(t *testing.T) {
	checkInferences(t, "bound 5", []inference{
		{"fun:?:n(open:1(box:?(x0),add(x0,x0)))", "fun:2:n(open:1(box:2(x0),add(x0,x0)))"},
		{"fun:?:n(open:1(box:?(add(x0,x0)),add(x0,x0)))", "fun:4:n(open:1(box:2(add(x0,x0)),add(x0,x0)))"},
		{"open:1(box:?(1),open:1(box:?(x0),open:1(box:?(add(x0,x0)),add(x0,x0))))", "open:1(box:4(1),open:1(box:4(x0),open:1(box:2(add(x0,x0)),add(x0,x0))))"},
		{"fun:?:n(app(fun:?:n(add(x0,x0)),x0))", "fun:2:n(app(fun:2:n(add(x0,x0)),x0))"},
		{"fun:?:n(app(fun:?:n(add(x0,x0)),add(x0,x0)))", "fun:4:n(app(fun:2:n(add(x0,x0)),add(x0,x0)))"},
		{"fun:?:n(app(fun:?:n(add(x0,add(x0,x0))),add(x0,x0)))", "fun:6:n(app(fun:3:n(add(x0,add(x0,x0))),add(x0,x0)))"},
		{"fun:?:n(app(fun:?:!?.n(open:1(x0,add(x0,x0))),box:?(x0)))", "fun:2:n(app(fun:1:!2.n(open:1(x0,add(x0,x0))),box:2(x0)))"},
		{"fun:?:n(case:?(left:n(x0),add(x0,x0),add(x1,0)))", "fun:3:n(case:2(left:n(x0),add(x0,x0),add(x1,0)))"},
		{"fun:?:n(split:?(pair(x0,x0),add(x0,x0)))", "fun:4:n(split:2(pair(x0,x0),add(x0,x0)))"},
		{"fun:?:>?.nn(fun:?:n(app(x1,app(x1,x0))))", "fun:1:>0.nn(fun:0:n(app(x1,app(x1,x0))))"},
		{"app(fun:?:>?.nn(fun:?:n(app(x1,app(x1,x0)))),fun:?:n(add(x0,x0)))", "app(fun:3:>2.nn(fun:4:n(app(x1,app(x1,x0)))),fun:2:n(add(x0,x0)))"},
		{"app(fun:?:>?.nn(fun:?:n(app(x1,app(x1,x0)))),fun:?:n(add(x0,add(x0,x0))))", "app(fun:4:>3.nn(fun:6:n(app(x1,app(x1,x0)))),fun:3:n(add(x0,add(x0,x0))))"},
		// A box is told by what stands in another branch, behind it.
		{"fun:?:n(open:1(if(0,box:?(x0),box:4(x0)),x0))", "fun:4:n(open:1(if(0,box:4(x0),box:4(x0)),x0))"},
		{"fun:?:n(if(0,box:?(x0),open:1(box:?(0),if(0,box:?(0),box:3(x0)))))", "fun:3:n(if(0,box:3(x0),open:1(box:3(0),if(0,box:3(0),box:3(x0)))))"},
		// A place that stands in a need that it must be above.
		{"fun:?:>?.nn(if(0,x0,fun:?:n(app(x1,add(x0,x0)))))", "fun:1:>0.nn(if(0,x0,fun:0:n(app(x1,add(x0,x0)))))"},
		{"fun:?:>?.nn(if(0,x0,fun:?:n(add(x0,app(x1,x0)))))", "fun:1:>6.nn(if(0,x0,fun:6:n(add(x0,app(x1,x0)))))"},
		{"fun:?:>5.nn(if(0,x0,fun:?:n(add(x0,app(x1,x0)))))", "fails"},
		{"fun:?:>6.nn(if(0,x0,fun:?:n(add(x0,app(x1,x0)))))", "fun:1:>6.nn(if(0,x0,fun:6:n(add(x0,app(x1,x0)))))"},
	})
	// 1 is the greatest level: nothing is above it, and nothing more is needed.
	checkInferences(t, "level 2", []inference{
		{"fun:?:n(add(x0,x0))", "fun:1:n(add(x0,x0))"},
		{"fun:?:n(0)", "fun:0:n(0)"},
		{"fun:?:n(open:1(box:2(x0),0))", "fun:2:n(open:1(box:2(x0),0))"},
		{"fun:?:n(open:1(box:?(x0),box:2(x0)))", "fun:2:n(open:1(box:2(x0),box:2(x0)))"},
		{"fun:?:n(add(open:1(box:2(x0),0),x0))", "fun:1:n(add(open:1(box:2(x0),0),x0))"},
		{"split:?(pair(1,2),0)", "split:1(pair(1,2),0)"},
		{"split:2(pair(1,2),0)", "fails"},
		{"case:2(left:n(1),0,0)", "fails"},
		{"fun:2:n(x0)", "fails"},
		{"fun:?:>?.nn(if(0,x0,fun:?:n(add(x0,app(x1,x0)))))", "fun:1:>1.nn(if(0,x0,fun:1:n(add(x0,app(x1,x0)))))"},
	})
}

// TestInferJoins has systems in which the least solution is not the greatest need of any one place.
func TestInferJoins(t *testing.T) {
	// 1 is (1, 1), 2 is (0, 1) and 3 is (1, 0): 1 is the join of the others.
	checkInferences(t, "level 1*level 1", []inference{
		{"if(0,fun:?:n(open:1(box:2(x0),0)),fun:?:n(open:1(box:3(x0),0)))", "if(0,fun:1:n(open:1(box:2(x0),0)),fun:1:n(open:1(box:3(x0),0)))"},
		{"fun:?:n(if(0,box:2(x0),open:1(box:3(x0),box:2(0))))", "fun:1:n(if(0,box:2(x0),open:1(box:3(x0),box:2(0))))"},
		{"if(0,fun:?:n(open:1(box:2(x0),0)),fun:?:n(open:1(box:0(x0),0)))", "if(0,fun:2:n(open:1(box:2(x0),0)),fun:2:n(open:1(box:0(x0),0)))"},
		{"if(0,fun:2:n(open:1(box:2(x0),0)),fun:?:n(open:1(box:3(x0),0)))", "fails"},
		{"open:1(if(0,box:?(1),box:?(2)),if(open:1(box:2(x0),1),0,0))", "open:1(if(0,box:2(1),box:2(2)),if(open:1(box:2(x0),1),0,0))"},
		{"pair(fun:?:n(open:1(box:2(x0),0)),fun:?:n(open:1(box:3(x0),0)))", "pair(fun:2:n(open:1(box:2(x0),0)),fun:3:n(open:1(box:3(x0),0)))"},
		{"split:2(pair(1,2),0)", "fails"},
		{"split:3(pair(1,2),0)", "fails"},
	})
	// 2 is (0, 1), 4 is (1, 0), 6 is (2, 0), 5 is (1, 2) and 7 is (2, 1), in a product of numbers up to 1, with many.
	checkInferences(t, "bound 1*bound 1", []inference{
		{"if(0,fun:?:n(open:1(box:2(x0),0)),fun:?:n(open:1(box:4(x0),0)))", "if(0,fun:1:n(open:1(box:2(x0),0)),fun:1:n(open:1(box:4(x0),0)))"},
		{"if(0,fun:?:n(open:1(box:2(x0),0)),fun:?:n(open:1(box:6(x0),0)))", "if(0,fun:7:n(open:1(box:2(x0),0)),fun:7:n(open:1(box:6(x0),0)))"},
		{"if(0,fun:?:n(x0),fun:?:n(open:1(box:6(x0),0)))", "if(0,fun:7:n(x0),fun:7:n(open:1(box:6(x0),0)))"},
		{"split:?(pair(1,2),open:1(box:6(x0),0))", "split:7(pair(1,2),open:1(box:6(x0),0))"},
		{"split:?(pair(1,2),open:1(box:6(x0),open:1(box:3(x2),0)))", "split:8(pair(1,2),open:1(box:6(x0),open:1(box:3(x2),0)))"},
		{"case:?(left:n(1),open:1(box:6(x0),0),open:1(box:3(x0),0))", "case:8(left:n(1),open:1(box:6(x0),0),open:1(box:3(x0),0))"},
	})
}

// TestInferOrderOfProducts has a system in which 2 * 3 is 3, and 3 * 2 is 2.
func TestInferOrderOfProducts(t *testing.T) {
	checkInferences(t, "factorsLost", []inference{
		{"fun:?:n(box:2(box:3(x0)))", "fun:3:n(box:2(box:3(x0)))"},
		{"fun:?:n(box:3(box:2(x0)))", "fun:2:n(box:3(box:2(x0)))"},
		{"fun:?:n(if(0,box:?(box:3(x0)),box:2(box:3(0))))", "fun:3:n(if(0,box:2(box:3(x0)),box:2(box:3(0))))"},
		{"fun:?:n(if(0,box:?(box:2(x0)),box:3(box:2(0))))", "fun:2:n(if(0,box:3(box:2(x0)),box:3(box:2(0))))"},
		{"fun:?:n(app(fun:?:!3.n(open:1(box:2(x0),0)),box:3(x0)))", "fun:3:n(app(fun:2:!3.n(open:1(box:2(x0),0)),box:3(x0)))"},
	})
	// Here 2 * 2 is 0.
	checkInferences(t, "fading", []inference{
		{"fun:?:n(box:2(box:2(x0)))", "fun:0:n(box:2(box:2(x0)))"},
		{"fun:?:n(if(0,box:?(box:?(x0)),box:2(box:2(0))))", "fun:0:n(if(0,box:2(box:2(x0)),box:2(box:2(0))))"},
	})
}

// TestInferFails has terms for which there is no solution or no look for one.
func TestInferFails(t *testing.T) {
	for _, text := range []string{
		// Types that no grade mends.
		"add(fun:?:n(0),1)", "add(1,box:?(0))", "if(box:?(0),1,1)", "if(0,fun:?:n(x0),1)", "if(0,1,box:?(1))",
		"if(0,fun:?:n(0),box:?(0))", "if(0,left:>?.nn(1),left:!?.n(1))", "if(0,left:!?.n(1),left:!?.!?.n(1))",
		"if(0,left:>?.nn(1),right:>?.nn(1))", "app(1,2)", "app(box:?(1),2)", "app(fun:?:n(0),fun:?:n(0))",
		"app(fun:?:>?.nn(0),1)", "app(fun:?:>?.nn(0),box:?(1))", "fun:?:n(app(x0,1))", "split:?(1,0)", "split:?(box:?(1),0)",
		"case:?(1,0,0)", "case:?(left:n(1),0,box:?(0))", "open:1(pair(1,2),0)", "open:1(fun:?:n(0),0)",
		"app(fun:?:n(x0),app(fun:?:n(x0),box:?(1)))",
		// Types that are too long.
		"fun:?:" + longType(39) + "(0)", "left:" + longType(39) + "(0)", "pair(left:" + longType(37) + "(0),0)",
		"open:1(box:?(left:" + longType(38) + "(0)),0)",
		// Needs that no grade is above.
		"fun:0:n(box:1(x0))", "fun:1:n(open:1(box:?(x0),add(x0,x0)))", "app(fun:?:!1.n(open:1(x0,add(x0,x0))),box:?(1))",
		"fun:2:n(app(fun:?:n(add(x0,x0)),add(x0,x0)))",
		// Variables of the root, some of them under variables that are added.
		"x0", "x7", "add(x0,1)", "box:?(x0)", "fun:?:n(x1)", "fun:?:n(add(x0,x1))", "fun:?:n(x8)", "split:?(pair(1,2),x2)",
		"case:?(left:n(1),x1,0)", "case:?(left:n(1),0,x1)", "case:?(left:n(1),x0,x1)", "case:?(x0,1,1)", "open:1(box:?(1),x1)",
		"open:1(x0,1)", "app(fun:?:n(x0),x0)", "fun:?:n(fun:?:n(x2))", "if(0,0,x0)", "fun:?:n(split:?(pair(x1,1),0))",
		// Opens with another grade.
		"open:0(box:?(1),0)", "open:2(box:?(1),0)", "open:3(box:3(1),x0)", "open:?(box:?(1),0)", "open:?(box:1(1),x0)",
		"box:?(open:2(box:?(1),0))", "open:1(open:?(box:?(box:?(1)),x0),0)", "open:1(box:?(1),open:2(box:1(1),0))", "if(0,0,open:?(box:1(1),0))",
		// Grades that the system does not have.
		"fun:4:n(0)", "fun:15:n(x0)", "fun:?:>4.nn(0)", "fun:?:!4.n(0)", "left:*!3.n!4.n(1)", "right:>?.n>15.nn(1)", "box:4(1)",
		"box:?(box:4(1))", "split:4(pair(1,2),0)", "case:4(left:n(1),0,0)", "if(0,fun:?:n(0),fun:4:n(0))",
	} {
		x := parsed(t, text)
		if got := inferred(t, impl.BoundSystem(2), x); got != "fails" {
			t.Errorf("InferGrades of %s is %s", text, got)
		}
		if got := slowInfer(impl.BoundSystem(2), x); got != "fails" {
			t.Errorf("the second way of %s is %s", text, got)
		}
	}
	checkInferences(t, "bound 2", []inference{
		{"fun:?:" + longType(38) + "(0)", "fun:0:" + longType(38) + "(0)"},
		{"left:" + longType(38) + "(0)", "left:" + longType(38) + "(0)"},
		{"box:?(left:" + longType(37) + "(0))", "box:0(left:" + longType(37) + "(0))"},
	})
}

// TestInferBadSystems has lists that are no systems, and systems whose least grade is not 0, or that have none.
func TestInferBadSystems(t *testing.T) {
	texts := []string{"0", "fun:?:n(x0)", "fun:1:n(x0)", "pair(1,2)", "box:?(1)"}
	bad := badSystems()
	for law, s := range lawBreakers() {
		bad[law] = s
	}
	for _, name := range []string{"count 1", "count 2", "count 14", "count 1*level 1", "count 1*bound 1", "upsideDown", "bound 1*upsideDown", "askew", "ordersLost"} {
		bad[name] = systemOf(t, name)
	}
	for name, s := range bad {
		for _, text := range texts {
			if got := inferred(t, s, parsed(t, text)); got != "fails" {
				t.Errorf("%s: InferGrades of %s is %s", name, text, got)
			}
		}
	}
	for name, s := range goodSystems() {
		if got, want := inferred(t, s, parsed(t, "pair(1,fun:?:n(0))")), impl.LeastGrade(s) == 0; (got != "fails") != want {
			t.Errorf("%s: InferGrades is %s", name, got)
		}
	}
}

// TestInferMadeTerms compares with a second way, and with all lists where they are few.
func TestInferMadeTerms(t *testing.T) {
	for _, name := range leastSystems() {
		for _, chance := range []int{100, 60, 30} {
			good, bad, tried := 0, 0, 0
			madeOpenTerms(t, name, 120, 30, chance, func(s impl.System, x impl.Term) {
				want := slowInfer(s, x)
				if got := inferred(t, s, x); got != want {
					t.Errorf("%s: InferGrades of %s is %s, not %s", name, textOf(x), got, want)
				}
				if want == "fails" {
					bad++
				} else {
					good++
					checkSolution(t, name, s, x, want)
				}
				lists := 1
				for range slowCountOpen(x) {
					lists = min(lists*s.Size, 1000)
				}
				if lists <= 300 {
					tried++
					if got := triedOut(s, x); got != want {
						t.Errorf("%s: the least solution of %s is %s, not %s", name, textOf(x), got, want)
					}
				}
			})
			if good < 30 || bad < 2 || tried < 8 {
				t.Errorf("%s, %d: only %d terms with a solution, %d without, %d with few lists", name, chance, good, bad, tried)
			}
		}
	}
}

// checkSolution looks at what is inferred without any second way: it has a type, is what is handed over but for its open
// places, and stays what it is.
func checkSolution(t *testing.T, name string, s impl.System, x impl.Term, text string) {
	t.Helper()
	y := parsed(t, text)
	if f := found(t, s, nil, y); f.fault != impl.FaultNone {
		t.Errorf("%s: %s has no type: %s", name, text, f)
	}
	if got := inferred(t, s, y); got != text {
		t.Errorf("%s: InferGrades of %s is %s", name, text, got)
	}
	z, _ := impl.OpenAll(x)
	if w, _ := impl.OpenAll(y); !equalTerms(z, w) {
		t.Errorf("%s: %s is not %s filled", name, text, textOf(x))
	}
	// With all grades open there is a solution, too, that is below.
	least, ok := impl.InferGrades(s, z)
	if !ok {
		t.Errorf("%s: InferGrades of %s fails", name, textOf(z))
		return
	}
	l, m := gradesOf(least), gradesOf(y)
	for i := range l {
		if !s.Below[l[i]*s.Size+m[i]] {
			t.Errorf("%s: %s is not below %s", name, textOf(least), text)
		}
	}
}

// TestInferOnePlaceOfMany leaves one grade open, of terms that have a type, and tries all grades.
func TestInferOnePlaceOfMany(t *testing.T) {
	for _, name := range leastSystems() {
		madeOpenTerms(t, name, 60, 20, 0, func(s impl.System, x impl.Term) {
			n := len(gradesOf(x))
			y, _ := impl.OpenAll(x)
			for i := range n {
				l := gradesOf(x)
				l[i] = -1
				z := parsed(t, strings.ReplaceAll(slowFillOpen(y, l), "-1", "?"))
				if got, want := inferred(t, s, z), triedOut(s, z); got != want {
					t.Errorf("%s: InferGrades of %s is %s, not %s", name, textOf(z), got, want)
				}
			}
		})
	}
}

// TestInferLongTerms has terms of 400 nodes, or nearly so, with places that many others wait for, or are one with.
func TestInferLongTerms(t *testing.T) {
	s := impl.BoundSystem(14)
	with := func(g, text string) string { return strings.ReplaceAll(text, "?", g) }
	one, two := "open:1(box:?(x0),|)", "open:1(box:?(add(x0,x0)),|)"
	first, second := "if(0,|,fun:?:n(x0))", "if(0,fun:?:n(x0),|)"
	boxes := strings.Repeat("!?.", 35) + "n"
	side, last := "if(0,left:"+boxes+"(0),|)", "left:"+boxes+"(0)"
	// What is used doubles from the inside on: 1, 2, 4 and 8, and many from there.
	four := "open:1(box:8(add(x0,x0)),open:1(box:4(add(x0,x0)),open:1(box:2(add(x0,x0)),open:1(box:1(add(x0,x0)),x0))))"
	for name, c := range map[string]inference{
		"all 1":   {nested(132, one, "x0"), with("1", nested(132, one, "x0"))},
		"all 2":   {nested(131, one, "add(x0,x0)"), with("2", nested(131, one, "add(x0,x0)"))},
		"all 0":   {nested(132, one, "0"), with("0", nested(132, one, "0"))},
		"doubled": {nested(79, two, "x0"), with("15", nested(75, two, four))},
		"first":   {nested(98, first, "fun:?:n(add(x0,x1))"), with("1", nested(98, first, "fun:?:n(add(x0,x1))"))},
		"second":  {nested(98, second, "fun:?:n(add(x0,x0))"), with("2", nested(98, second, "fun:?:n(add(x0,x0))"))},
		"known":   {nested(98, first, "fun:9:n(add(x0,x1))"), with("9", nested(98, first, "fun:9:n(add(x0,x1))"))},
		"sides":   {nested(98, side, with("7", last)), with("7", nested(98, side, last))},
		// What is needed of the box ahead of all is told by the one behind all.
		"far": {
			"app(fun:?:n(open:1(" + nested(97, "if(0,box:?(0),|)", "box:?(x0)") + ",add(x0,x0))),1)",
			with("2", "app(fun:?:n(open:1("+nested(97, "if(0,box:?(0),|)", "box:?(x0)")+",add(x0,x0))),1)"),
		},
		"ahead":   {"if(0," + with("7", last) + "," + nested(97, side, last) + ")", with("7", nested(98, side, last))},
		"no such": {nested(98, side, "left:"+strings.Repeat("!?.", 34)+"*nn(0)"), ""},
	} {
		want := "fails"
		if c.want != "" {
			want = "fun:15:n(" + c.want + ")"
		}
		if got := inferred(t, s, parsed(t, "fun:15:n("+c.text+")")); got != want {
			t.Errorf("%s: InferGrades of %s is %s, not %s", name, c.text, got, want)
		}
	}
	// Here nothing but the length of the type is wrong.
	if got := inferred(t, s, parsed(t, nested(399, "fun:?:"+strings.Repeat("!?.", 39)+"n(|)", "0"))); got != "fails" {
		t.Errorf("InferGrades of many places is %.80s", got)
	}
}

func TestInferKeepsArguments(t *testing.T) {
	for _, name := range []string{"bound 2", "level 2*bound 1"} {
		madeOpenTerms(t, name, 150, 20, 70, func(s impl.System, x impl.Term) {
			wide := copyOfTerm(x)
			before := dump(reflect.ValueOf(wide))
			y, _ := impl.InferGrades(s, wide)
			if dump(reflect.ValueOf(wide)) != before {
				t.Errorf("%s: InferGrades changes %s", name, textOf(x))
			}
			if !ownsMemory(y, wide, s) {
				t.Errorf("%s: what InferGrades returns for %s shares memory", name, textOf(x))
			}
		})
		unchanged(t, name, systemOf(t, name), func(s impl.System) {
			impl.InferGrades(s, parsed(t, "fun:?:n(app(fun:?:n(add(x0,x0)),x0))"))
			impl.InferGrades(s, parsed(t, "fun:1:n(app(fun:?:n(add(x0,x0)),x0))"))
		})
	}
	s := impl.BoundSystem(2)
	keepsTerms(t, "InferGrades", func(l []impl.Term) []impl.Term {
		y, _ := impl.InferGrades(s, l[0])
		z, _ := impl.InferGrades(s, l[1])
		return []impl.Term{y, z}
	}, parsed(t, "app(fun:?:>?.nn(app(x0,1)),fun:?:n(add(x0,x0)))"), parsed(t, "left:>1.n!2.n(1)"))
}
