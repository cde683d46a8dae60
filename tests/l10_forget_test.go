package tests

import (
	"testing"

	"loop.example/g03111/impl"
)

func checkForgetTerm(t *testing.T, name string, cases []translation) {
	t.Helper()
	s := systemOf(t, name)
	for _, c := range cases {
		ctx, x, want := contextOf(t, c.ctx), parsed(t, c.term), c.want
		if want == "" {
			want = c.term
		}
		if f := slowFind(s, ctx, x); f.fault != impl.FaultNone {
			t.Errorf("%s: %s in %q has no type: %s", name, c.term, c.ctx, f)
			continue
		}
		if got := plainTerm(t, s, ctx, x); got != want {
			t.Errorf("%s: ForgetTerm of %s in %q is %s, not %s", name, c.term, c.ctx, got, want)
		}
		if got := slowForgetter(s).text(ctx, x); got != want {
			t.Errorf("%s: the second way of %s in %q is %s, not %s", name, c.term, c.ctx, got, want)
			continue
		}
		checkPlainTyping(t, s, ctx, x, want)
	}
}

// TestForgetGrades has terms of which only grades, in types as well, are gone.
func TestForgetGrades(t *testing.T) {
	checkForgetTerm(t, "bound 2", []translation{
		// N of variables and numbers is no grade.
		{"", "0", ""},
		{"", "2", ""},
		{"n", "x0", ""},
		{"n n n n n n n n", "pair(x7,pair(x3,pair(x2,x0)))", ""},
		{"n n n", "add(x2,add(2,0))", ""},
		{"n n", "if(x1,x0,2)", ""},
		{"n", "fun:0:n(2)", "fun:1:n(2)"},
		{"n n n", "fun:0:n(x3)", "fun:1:n(x3)"},
		{"", "fun:2:n(add(x0,x0))", "fun:1:n(add(x0,x0))"},
		{"", "fun:1:n(x0)", ""},
		{"n", "fun:3:n(fun:2:n(add(x0,add(x1,x2))))", "fun:1:n(fun:1:n(add(x0,add(x1,x2))))"},
		{"*nn n", "split:2(x0,pair(x0,pair(x1,x3)))", "split:1(x0,pair(x0,pair(x1,x3)))"},
		{"*nn", "split:1(x0,2)", ""},
		{"*nn", "split:3(x0,split:2(x2,x2))", "split:1(x0,split:1(x2,x2))"},
		{"+nn n", "case:3(x0,add(x0,x2),x0)", "case:1(x0,add(x0,x2),x0)"},
		{"+nn", "case:2(x0,2,x0)", "case:1(x0,2,x0)"},
		{">2.nn n", "app(x0,x1)", ""},
		{"", "app(fun:2:n(add(x0,x0)),2)", "app(fun:1:n(add(x0,x0)),2)"},
		{"", "app(fun:0:n(0),app(fun:3:n(x0),2))", "app(fun:1:n(0),app(fun:1:n(x0),2))"},
		// Types.
		{"", "left:n(1)", ""},
		{"", "right:*n+nn(2)", ""},
		{"", "left:!2.n(1)", "left:n(1)"},
		{"", "right:>2.!1.n!0.n(1)", "right:>1.nn(1)"},
		{"", "right:!2.!1.!0.n(left:>0.nn(1))", "right:n(left:>1.nn(1))"},
		{"", "fun:2:>0.!1.nn(0)", "fun:1:>1.nn(0)"},
		{"", "fun:1:!2.!3.n(x0)", "fun:1:n(x0)"},
		{"", "fun:0:*>2.nn!2.+n!1.n(0)", "fun:1:*>1.nn+nn(0)"},
		{"", "fun:0:>3.>2.nn>0.nn(0)", "fun:1:>1.>1.nn>1.nn(0)"},
	})
	checkForgetTerm(t, "level 15", []translation{
		{"n", "fun:15:>14.nn(box:15(app(x0,x1)))", "fun:1:>1.nn(app(x0,x1))"},
		{"!1.n", "box:15(open:1(x0,x0))", "app(fun:1:n(x0),x0)"},
	})
	checkForgetTerm(t, "count 1*level 1", []translation{
		{"", "fun:2:n(box:2(x0))", "fun:1:n(x0)"},
		{"", "fun:5:n(add(x0,x0))", "fun:1:n(add(x0,x0))"},
	})
	checkForgetTerm(t, "count 1", []translation{
		{"*nn", "split:2(x0,add(x0,x0))", "split:1(x0,add(x0,x0))"},
	})
}

func TestForgetBoxes(t *testing.T) {
	checkForgetTerm(t, "bound 2", []translation{
		{"", "box:2(1)", "1"},
		{"", "box:0(1)", "1"},
		{"", "box:1(1)", "1"},
		{"n n", "box:3(x1)", "x1"},
		{"", "box:2(box:0(1))", "1"},
		{"", "box:0(box:1(box:2(box:3(2))))", "2"},
		{"", "box:0(pair(box:1(1),box:2(2)))", "pair(1,2)"},
		{"n", "add(1,if(x0,1,2))", ""},
		// Within all other terms, and with all other terms within.
		{"n", "if(x0,box:2(1),box:2(x0))", "if(x0,1,x0)"},
		{"n", "box:2(if(x0,1,2))", "if(x0,1,2)"},
		{"n", "pair(box:2(x0),box:0(box:1(2)))", "pair(x0,2)"},
		{"n", "box:2(pair(x0,2))", "pair(x0,2)"},
		{"n", "split:2(pair(box:2(x0),box:3(1)),pair(x1,box:0(x2)))", "split:1(pair(x0,1),pair(x1,x2))"},
		{"n", "box:1(split:2(pair(x0,1),pair(x1,x2)))", "split:1(pair(x0,1),pair(x1,x2))"},
		{"n", "left:!1.n(box:2(x0))", "left:n(x0)"},
		{"n", "box:2(right:!1.n(x0))", "right:n(x0)"},
		{"n", "case:2(left:!3.n(box:0(x0)),x0,box:0(x1))", "case:1(left:n(x0),x0,x1)"},
		{"n", "box:3(case:2(right:n(x0),x0,x1))", "case:1(right:n(x0),x0,x1)"},
		{"n", "fun:0:n(box:2(x1))", "fun:1:n(x1)"},
		{"n", "box:2(fun:0:!1.n(x1))", "fun:1:n(x1)"},
		{"n", "app(fun:2:!1.n(x0),box:1(x0))", "app(fun:1:n(x0),x0)"},
		{"n", "box:2(app(fun:2:!0.n(x0),box:0(x0)))", "app(fun:1:n(x0),x0)"},
	})
}

func TestForgetOpens(t *testing.T) {
	checkForgetTerm(t, "bound 2", []translation{
		{"", "fun:1:!2.n(open:1(x0,add(x0,x0)))", "fun:1:n(app(fun:1:n(add(x0,x0)),x0))"},
		{"", "open:1(box:2(1),add(x0,x0))", "app(fun:1:n(add(x0,x0)),1)"},
		{"", "open:2(box:1(1),add(x0,x0))", "app(fun:1:n(add(x0,x0)),1)"},
		{"", "open:3(box:0(1),2)", "app(fun:1:n(2),1)"},
		// Of a variable, in which the content has the index that it had.
		{"!2.n", "open:1(x0,x0)", "app(fun:1:n(x0),x0)"},
		{"!2.n", "open:2(x0,1)", "app(fun:1:n(1),x0)"},
		{"!2.n", "open:1(x0,x1)", "app(fun:1:n(x1),x0)"},
		{"n !2.n", "open:1(x1,pair(x0,pair(x1,x2)))", "app(fun:1:n(pair(x0,pair(x1,x2))),x1)"},
		{"!2.n n", "open:1(x0,pair(x0,pair(x1,x2)))", "app(fun:1:n(pair(x0,pair(x1,x2))),x0)"},
		{"n n n n n n n !3.n", "open:1(x7,pair(x8,pair(x0,x1)))", "app(fun:1:n(pair(x8,pair(x0,x1))),x7)"},
		// Opens within opens, on both sides.
		{"!1.!2.n", "open:1(x0,open:1(x0,x0))", "app(fun:1:n(app(fun:1:n(x0),x0)),x0)"},
		{"!1.!2.n", "open:1(open:1(x0,x0),x0)", "app(fun:1:n(x0),app(fun:1:n(x0),x0))"},
		{"!1.n !2.n", "open:1(x0,open:1(x2,pair(x0,pair(x1,pair(x2,x3)))))", "app(fun:1:n(app(fun:1:n(pair(x0,pair(x1,pair(x2,x3)))),x2)),x0)"},
		{"!1.!1.!2.n", "open:1(open:1(x0,x0),open:1(x0,pair(x0,x2)))", "app(fun:1:n(app(fun:1:n(pair(x0,x2)),x0)),app(fun:1:n(x0),x0))"},
		{"!1.n", "open:1(box:2(open:1(x0,x0)),add(x0,x0))", "app(fun:1:n(add(x0,x0)),app(fun:1:n(x0),x0))"},
		{"!3.n", "box:2(open:1(x0,box:3(x0)))", "app(fun:1:n(x0),x0)"},
		// The type of the function is that of the content, and not of the box or of what is made of it.
		{"!1.!2.n", "open:1(x0,1)", "app(fun:1:n(1),x0)"},
		{"!1.!2.!3.n", "open:1(x0,x0)", "app(fun:1:n(x0),x0)"},
		{"!1.*nn", "open:1(x0,1)", "app(fun:1:*nn(1),x0)"},
		{"!1.n *nn", "open:1(x0,x2)", "app(fun:1:n(x2),x0)"},
		{"!1.>2.!3.n+n!0.n", "open:1(x0,x0)", "app(fun:1:>1.n+nn(x0),x0)"},
		{"!0.>3.>2.nn!1.n", "open:1(x0,0)", "app(fun:1:>1.>1.nnn(0),x0)"},
		{"", "open:1(box:2(left:!3.n(box:1(1))),1)", "app(fun:1:+nn(1),left:n(1))"},
		{"", "open:1(box:2(fun:3:!1.n(x0)),x0)", "app(fun:1:>1.nn(x0),fun:1:n(x0))"},
		{"", "open:1(open:1(box:2(box:1(pair(1,box:0(2)))),x0),x0)", "app(fun:1:*nn(x0),app(fun:1:*nn(x0),pair(1,2)))"},
		// The type of what is opened is found through an if, a split, a case, an application or an open.
		{"!1.+n!2.n", "open:1(if(0,x0,x0),1)", "app(fun:1:+nn(1),if(0,x0,x0))"},
		{"*!1.*nnn", "open:1(split:1(x0,x1),1)", "app(fun:1:*nn(1),split:1(x0,x1))"},
		{"*!1.*nnn", "split:1(x0,open:1(x1,1))", "split:1(x0,app(fun:1:*nn(1),x1))"},
		{"*n!1.*nn", "split:1(x0,open:1(x0,x2))", "split:1(x0,app(fun:1:*nn(x2),x0))"},
		{"+!1.+nn!1.+nn", "open:1(case:1(x0,x0,x0),1)", "app(fun:1:+nn(1),case:1(x0,x0,x0))"},
		{"+!1.+nn!1.*nn", "case:1(x0,open:1(x0,1),open:1(x0,2))", "case:1(x0,app(fun:1:+nn(1),x0),app(fun:1:*nn(2),x0))"},
		{">1.n!1.*nn", "open:1(app(x0,1),x0)", "app(fun:1:*nn(x0),app(x0,1))"},
		{"!1.!1.*nn", "open:1(x0,open:1(x0,x0))", "app(fun:1:*nn(app(fun:1:*nn(x0),x0)),x0)"},
		{"", "fun:1:!2.+nn(open:1(x0,1))", "fun:1:+nn(app(fun:1:+nn(1),x0))"},
		// Within functions, splits, cases and boxes, and these within.
		{"!2.n", "fun:1:n(open:1(x1,pair(x0,pair(x1,x2))))", "fun:1:n(app(fun:1:n(pair(x0,pair(x1,x2))),x1))"},
		{"!2.n", "open:1(x0,fun:1:n(pair(x0,pair(x1,x2))))", "app(fun:1:n(fun:1:n(pair(x0,pair(x1,x2)))),x0)"},
		{"!2.n *nn", "open:1(x0,split:2(x2,pair(x0,pair(x1,pair(x2,x3)))))", "app(fun:1:n(split:1(x2,pair(x0,pair(x1,pair(x2,x3))))),x0)"},
		{"!2.n +nn", "open:1(x0,case:2(x2,pair(x0,x1),pair(x1,x0)))", "app(fun:1:n(case:1(x2,pair(x0,x1),pair(x1,x0))),x0)"},
		{"!2.n >3.nn", "app(x1,open:1(x0,x0))", "app(x1,app(fun:1:n(x0),x0))"},
		{"!2.>3.nn", "app(open:1(x0,x0),1)", "app(app(fun:1:>1.nn(x0),x0),1)"},
		{"!2.n", "add(open:1(x0,x0),if(open:1(x0,1),2,open:1(x0,x0)))", "add(app(fun:1:n(x0),x0),if(app(fun:1:n(1),x0),2,app(fun:1:n(x0),x0)))"},
	})
}
