package tests

import (
	"testing"

	"loop.example/g03111/impl"
)

// translation is a term in a context, and what a function returns for it: if want is empty, the term itself.
type translation struct{ ctx, term, want string }

func checkBoxTerm(t *testing.T, name string, cases []translation) {
	t.Helper()
	s := systemOf(t, name)
	for _, c := range cases {
		ctx, x, want := contextOf(t, c.ctx), parsed(t, c.term), c.want
		if want == "" {
			want = c.term
		}
		if f := slowFind(s, ctx, x); f.fault != impl.FaultNone {
			t.Errorf("%s: %s in %q has no type: %s", name, c.term, c.ctx, f)
			continue
		}
		if got := boxedTerm(t, s, ctx, x); got != want {
			t.Errorf("%s: BoxTerm of %s in %q is %s, not %s", name, c.term, c.ctx, got, want)
		}
		if got := slowBoxer(s).text(ctx, x); got != want {
			t.Errorf("%s: the second way of %s in %q is %s, not %s", name, c.term, c.ctx, got, want)
			continue
		}
		checkBoxedTyping(t, s, ctx, x, want)
	}
}

func TestBoxFunctions(t *testing.T) {
	checkBoxTerm(t, "bound 2", []translation{
		{"", "fun:2:n(add(x0,x0))", "fun:1:!2.n(open:1(x0,add(x0,x0)))"},
		{"", "fun:0:n(1)", "fun:1:!0.n(open:1(x0,1))"},
		{"", "fun:1:n(x0)", "fun:1:!1.n(open:1(x0,x0))"},
		{"", "fun:3:n(x0)", "fun:1:!3.n(open:1(x0,x0))"},
		{"", "fun:1:n(2)", "fun:1:!1.n(open:1(x0,2))"},
		// Other variables are raised.
		{"n", "fun:0:n(x1)", "fun:1:!0.n(open:1(x0,x2))"},
		{"n n", "fun:1:n(add(x0,add(x1,x2)))", "fun:1:!1.n(open:1(x0,add(x0,add(x2,x3))))"},
		{"n n", "fun:1:n(add(x2,add(x0,x1)))", "fun:1:!1.n(open:1(x0,add(x3,add(x0,x2))))"},
		{"n n n n n n n n", "fun:1:n(pair(x8,pair(x0,x1)))", "fun:1:!1.n(open:1(x0,pair(x9,pair(x0,x2))))"},
		// The type of the argument, with boxes and arrows of its own.
		{"", "fun:2:!3.n(x0)", "fun:1:!2.!3.n(open:1(x0,x0))"},
		{"", "fun:1:!0.!1.n(x0)", "fun:1:!1.!0.!1.n(open:1(x0,x0))"},
		{"", "fun:2:>3.nn(0)", "fun:1:!2.>1.!3.nn(open:1(x0,0))"},
		{"", "fun:1:>0.>2.nnn(x0)", "fun:1:!1.>1.!0.>1.!2.nnn(open:1(x0,x0))"},
		{"", "fun:0:*>0.nn+n!2.n(2)", "fun:1:!0.*>1.!0.nn+n!2.n(open:1(x0,2))"},
		// Functions beside each other.
		{"n", "pair(fun:1:n(add(x0,x1)),fun:2:n(pair(x1,x0)))", "pair(fun:1:!1.n(open:1(x0,add(x0,x2))),fun:1:!2.n(open:1(x0,pair(x2,x0))))"},
		{"n", "if(x0,fun:1:n(x1),fun:1:n(x0))", "if(x0,fun:1:!1.n(open:1(x0,x2)),fun:1:!1.n(open:1(x0,x0)))"},
	})
	checkBoxTerm(t, "count 1", []translation{
		{"", "fun:1:n(x0)", "fun:1:!1.n(open:1(x0,x0))"},
		{"", "fun:0:n(1)", "fun:1:!0.n(open:1(x0,1))"},
		{"n", "fun:2:n(add(x0,add(x0,x1)))", "fun:1:!2.n(open:1(x0,add(x0,add(x0,x2))))"},
	})
	checkBoxTerm(t, "level 15", []translation{
		{"", "fun:15:n(box:15(x0))", "fun:1:!15.n(open:1(x0,box:15(x0)))"},
		{"n", "fun:15:>14.nn(box:15(app(x0,x1)))", "fun:1:!15.>1.!14.nn(open:1(x0,box:15(app(x0,box:14(x2)))))"},
	})
	checkBoxTerm(t, "count 1*level 1", []translation{
		{"", "fun:2:n(box:2(x0))", "fun:1:!2.n(open:1(x0,box:2(x0)))"},
		{"", "fun:5:n(add(x0,x0))", "fun:1:!5.n(open:1(x0,add(x0,x0)))"},
	})
}

// TestBoxWhatIsNoFunction has terms that stay as they are, with all their grades, but for arrows in their types.
func TestBoxWhatIsNoFunction(t *testing.T) {
	checkBoxTerm(t, "bound 2", []translation{
		{"", "0", ""},
		{"", "2", ""},
		{"n", "x0", ""},
		{"n n n n n n n n", "x7", ""},
		{">2.nn", "x0", ""},
		{"n n", "add(x1,add(2,x0))", ""},
		{"n n", "if(x1,x0,2)", ""},
		{"n !2.n", "pair(x1,pair(x0,1))", ""},
		{"*nn n", "split:2(x0,add(x0,add(x1,x3)))", ""},
		{"*nn", "split:3(x0,1)", ""},
		{"+nn n", "case:3(x0,add(x0,x2),x0)", ""},
		{"+nn", "case:1(x0,1,x0)", ""},
		{"", "box:0(box:2(box:3(1)))", ""},
		{"!2.n n", "open:2(x0,add(x0,add(x0,x2)))", ""},
		{"!3.n", "open:3(x0,x0)", ""},
		{"", "left:n(1)", ""},
		{"", "right:!2.n(1)", ""},
		{"", "left:>2.nn(1)", "left:>1.!2.nn(1)"},
		{"", "right:>2.nn(1)", "right:>1.!2.nn(1)"},
		{"", "right:>0.>3.nn!1.n(1)", "right:>1.!0.>1.!3.nn!1.n(1)"},
		{"", "left:*>1.n>2.nn+!3.nn(left:>0.nn(1))", "left:*>1.!1.n>1.!2.nn+!3.nn(left:>1.!0.nn(1))"},
		{"", "pair(left:>2.nn(1),box:2(right:>3.nn(1)))", "pair(left:>1.!2.nn(1),box:2(right:>1.!3.nn(1)))"},
		{"", "split:2(pair(left:>2.nn(1),2),pair(x1,right:>3.nn(x0)))", "split:2(pair(left:>1.!2.nn(1),2),pair(x1,right:>1.!3.nn(x0)))"},
		{"", "open:2(box:1(left:>2.nn(1)),x0)", "open:2(box:1(left:>1.!2.nn(1)),x0)"},
	})
}

// TestBoxFunctionsWithinOthers has functions within functions, and all that adds variables around functions and within
// them.
func TestBoxFunctionsWithinOthers(t *testing.T) {
	checkBoxTerm(t, "bound 2", []translation{
		{"", "fun:1:n(fun:2:n(add(x0,x1)))", "fun:1:!1.n(open:1(x0,fun:1:!2.n(open:1(x0,add(x0,x2)))))"},
		{"", "fun:1:n(fun:0:n(x1))", "fun:1:!1.n(open:1(x0,fun:1:!0.n(open:1(x0,x2))))"},
		{"", "fun:0:n(fun:1:n(x0))", "fun:1:!0.n(open:1(x0,fun:1:!1.n(open:1(x0,x0))))"},
		{"n", "fun:1:n(fun:1:n(add(x0,add(x1,x2))))", "fun:1:!1.n(open:1(x0,fun:1:!1.n(open:1(x0,add(x0,add(x2,x4))))))"},
		{
			"n n", "fun:1:n(fun:2:n(fun:3:n(pair(x0,pair(x1,pair(x2,pair(x3,x4)))))))",
			"fun:1:!1.n(open:1(x0,fun:1:!2.n(open:1(x0,fun:1:!3.n(open:1(x0,pair(x0,pair(x2,pair(x4,pair(x6,x7))))))))))",
		},
		{"n", "fun:2:n(pair(x0,pair(fun:1:n(pair(x0,pair(x1,x2))),x1)))", "fun:1:!2.n(open:1(x0,pair(x0,pair(fun:1:!1.n(open:1(x0,pair(x0,pair(x2,x4)))),x2))))"},
		// Splits.
		{"n", "fun:2:*nn(split:1(x0,pair(x0,pair(x1,pair(x2,x3)))))", "fun:1:!2.*nn(open:1(x0,split:1(x0,pair(x0,pair(x1,pair(x2,x4))))))"},
		{"*nn n", "split:1(x0,fun:1:n(pair(x0,pair(x1,pair(x2,pair(x3,x4))))))", "split:1(x0,fun:1:!1.n(open:1(x0,pair(x0,pair(x2,pair(x3,pair(x4,x5)))))))"},
		{
			"*nn n", "fun:1:n(split:1(x1,fun:1:n(pair(x0,pair(x1,pair(x2,pair(x3,x5)))))))",
			"fun:1:!1.n(open:1(x0,split:1(x2,fun:1:!1.n(open:1(x0,pair(x0,pair(x2,pair(x3,pair(x4,x7)))))))))",
		},
		{"n", "split:1(pair(fun:1:n(x1),x0),app(x1,x2))", "split:1(pair(fun:1:!1.n(open:1(x0,x2)),x0),app(x1,box:1(x2)))"},
		// Cases.
		{
			"n", "fun:2:+nn(case:1(x0,pair(x0,pair(x1,x2)),pair(x2,pair(x1,x0))))",
			"fun:1:!2.+nn(open:1(x0,case:1(x0,pair(x0,pair(x1,x3)),pair(x3,pair(x1,x0)))))",
		},
		{
			"+nn n", "case:1(x0,fun:1:n(pair(x0,pair(x1,x3))),fun:1:n(pair(x1,pair(x0,x3))))",
			"case:1(x0,fun:1:!1.n(open:1(x0,pair(x0,pair(x2,x4)))),fun:1:!1.n(open:1(x0,pair(x2,pair(x0,x4)))))",
		},
		{
			"+nn n", "fun:1:n(case:1(x1,fun:0:n(pair(x1,x2)),fun:0:n(pair(x4,x1))))",
			"fun:1:!1.n(open:1(x0,case:1(x2,fun:1:!0.n(open:1(x0,pair(x2,x3))),fun:1:!0.n(open:1(x0,pair(x6,x2))))))",
		},
		{"n", "case:1(left:n(fun:1:n(x1)),app(x0,x1),x1)", "case:1(left:n(fun:1:!1.n(open:1(x0,x2))),app(x0,box:1(x1)),x1)"},
		// Opens.
		{"n", "fun:2:!1.n(open:1(x0,pair(x0,pair(x1,x2))))", "fun:1:!2.!1.n(open:1(x0,open:1(x0,pair(x0,pair(x1,x3)))))"},
		{"!1.n n", "open:1(x0,fun:1:n(pair(x0,pair(x1,pair(x2,x3)))))", "open:1(x0,fun:1:!1.n(open:1(x0,pair(x0,pair(x2,pair(x3,x4))))))"},
		{
			"!1.n n", "fun:1:n(open:1(x1,fun:1:n(pair(x0,pair(x1,pair(x2,x4))))))",
			"fun:1:!1.n(open:1(x0,open:1(x2,fun:1:!1.n(open:1(x0,pair(x0,pair(x2,pair(x3,x6))))))))",
		},
		{"n", "open:1(box:1(fun:1:n(x1)),app(x0,x1))", "open:1(box:1(fun:1:!1.n(open:1(x0,x2))),app(x0,box:1(x1)))"},
		// Others, which add nothing.
		{"n", "box:2(fun:1:n(pair(x0,x1)))", "box:2(fun:1:!1.n(open:1(x0,pair(x0,x2))))"},
		{"n", "left:>2.nn(fun:1:n(pair(x0,x1)))", "left:>1.!2.nn(fun:1:!1.n(open:1(x0,pair(x0,x2))))"},
		{"n", "right:>2.nn(fun:1:n(pair(x0,x1)))", "right:>1.!2.nn(fun:1:!1.n(open:1(x0,pair(x0,x2))))"},
		{"n", "fun:2:n(add(x0,if(x1,x1,x0)))", "fun:1:!2.n(open:1(x0,add(x0,if(x2,x2,x0))))"},
	})
}

func TestBoxAppliedTerms(t *testing.T) {
	checkBoxTerm(t, "bound 2", []translation{
		{"", "app(fun:0:n(1),2)", "app(fun:1:!0.n(open:1(x0,1)),box:0(2))"},
		{"", "app(fun:1:n(x0),2)", "app(fun:1:!1.n(open:1(x0,x0)),box:1(2))"},
		{"", "app(fun:2:n(add(x0,x0)),2)", "app(fun:1:!2.n(open:1(x0,add(x0,x0))),box:2(2))"},
		{"", "app(fun:3:n(x0),2)", "app(fun:1:!3.n(open:1(x0,x0)),box:3(2))"},
		{"n", "app(fun:1:n(add(x0,x1)),2)", "app(fun:1:!1.n(open:1(x0,add(x0,x2))),box:1(2))"},
		{"n", "app(fun:1:n(add(x0,x1)),x0)", "app(fun:1:!1.n(open:1(x0,add(x0,x2))),box:1(x0))"},
		// The arrow is that of a variable, of the root or added.
		{">0.nn n", "app(x0,x1)", "app(x0,box:0(x1))"},
		{">1.nn n", "app(x0,x1)", "app(x0,box:1(x1))"},
		{">2.nn n", "app(x0,x1)", "app(x0,box:2(x1))"},
		{"n >2.nn", "app(x1,x0)", "app(x1,box:2(x0))"},
		{"n n n n n n n >3.nn", "app(x7,x0)", "app(x7,box:3(x0))"},
		{"", "fun:1:>2.nn(app(x0,1))", "fun:1:!1.>1.!2.nn(open:1(x0,app(x0,box:2(1))))"},
		{">0.nn", "fun:1:>2.nn(app(x1,app(x0,1)))", "fun:1:!1.>1.!2.nn(open:1(x0,app(x2,box:0(app(x0,box:2(1))))))"},
		// An if.
		{">3.nn >3.nn n", "app(if(0,x0,x1),x2)", "app(if(0,x0,x1),box:3(x2))"},
		{">3.nn", "app(if(0,fun:3:n(x0),x0),1)", "app(if(0,fun:1:!3.n(open:1(x0,x0)),x0),box:3(1))"},
		// A split.
		{"*>2.nn>0.nn", "split:2(x0,add(app(x1,1),app(x0,1)))", "split:2(x0,add(app(x1,box:2(1)),app(x0,box:0(1))))"},
		{"*>2.nn>0.nn", "app(split:1(x0,x1),1)", "app(split:1(x0,x1),box:2(1))"},
		{"*>2.nn>0.nn", "app(split:1(x0,x0),1)", "app(split:1(x0,x0),box:0(1))"},
		// A case.
		{"+>2.nn>3.nn", "case:1(x0,app(x0,1),app(x0,1))", "case:1(x0,app(x0,box:2(1)),app(x0,box:3(1)))"},
		{"+>2.nnn", "app(case:1(x0,x0,fun:2:n(x0)),1)", "app(case:1(x0,x0,fun:1:!2.n(open:1(x0,x0))),box:2(1))"},
		{"+n>0.nn", "app(case:1(x0,fun:0:n(x1),x0),1)", "app(case:1(x0,fun:1:!0.n(open:1(x0,x2)),x0),box:0(1))"},
		// An open.
		{"!1.>2.nn", "open:1(x0,app(x0,1))", "open:1(x0,app(x0,box:2(1)))"},
		{"!1.>2.nn", "app(open:1(x0,x0),1)", "app(open:1(x0,x0),box:2(1))"},
		{"!3.>0.nn n", "app(open:1(x0,x0),x1)", "app(open:1(x0,x0),box:0(x1))"},
		// Another application.
		{">2.n>3.nn n", "app(app(x0,x1),1)", "app(app(x0,box:2(x1)),box:3(1))"},
		{">3.n>2.n>0.nn", "app(app(app(x0,0),1),2)", "app(app(app(x0,box:3(0)),box:2(1)),box:0(2))"},
		{"", "app(app(fun:0:n(fun:2:n(x0)),1),2)", "app(app(fun:1:!0.n(open:1(x0,fun:1:!2.n(open:1(x0,x0)))),box:0(1)),box:2(2))"},
		// An argument that is applied itself, or in which something is.
		{">2.nn >3.nn n", "app(x0,app(x1,x2))", "app(x0,box:2(app(x1,box:3(x2))))"},
		{">2.nn", "app(x0,app(x0,app(x0,1)))", "app(x0,box:2(app(x0,box:2(app(x0,box:2(1))))))"},
		{">2.*nnn >0.nn", "app(x0,pair(app(x1,1),2))", "app(x0,box:2(pair(app(x1,box:0(1)),2)))"},
		{">2.>0.nnn >3.n>0.nn", "app(x0,app(x1,1))", "app(x0,box:2(app(x1,box:3(1))))"},
		// An argument that is a function, or a box.
		{"", "app(fun:2:>3.nn(app(x0,1)),fun:3:n(x0))", "app(fun:1:!2.>1.!3.nn(open:1(x0,app(x0,box:3(1)))),box:2(fun:1:!3.n(open:1(x0,x0))))"},
		{"", "app(fun:1:!2.n(x0),box:2(1))", "app(fun:1:!1.!2.n(open:1(x0,x0)),box:1(box:2(1)))"},
		{
			"", "fun:3:>2.nn(fun:3:n(app(x1,app(x1,x0))))",
			"fun:1:!3.>1.!2.nn(open:1(x0,fun:1:!3.n(open:1(x0,app(x2,box:2(app(x2,box:2(x0))))))))",
		},
		// Within all other terms.
		{">2.nn", "add(app(x0,0),app(x0,1))", "add(app(x0,box:2(0)),app(x0,box:2(1)))"},
		{">2.nn", "if(app(x0,0),app(x0,1),app(x0,2))", "if(app(x0,box:2(0)),app(x0,box:2(1)),app(x0,box:2(2)))"},
		{">2.nn", "box:3(app(x0,1))", "box:3(app(x0,box:2(1)))"},
		{">2.nn", "left:n(right:n(app(x0,1)))", "left:n(right:n(app(x0,box:2(1))))"},
		{">2.*nnn", "app(x0,split:1(pair(1,2),pair(x1,x0)))", "app(x0,box:2(split:1(pair(1,2),pair(x1,x0))))"},
	})
	checkBoxTerm(t, "level 2", []translation{
		{">2.nn >0.nn", "pair(app(x0,1),app(x1,1))", "pair(app(x0,box:2(1)),app(x1,box:0(1)))"},
	})
	checkBoxTerm(t, "level 2*bound 1", []translation{
		{">8.nn >5.nn", "app(x0,app(x1,1))", "app(x0,box:8(app(x1,box:5(1))))"},
	})
}
