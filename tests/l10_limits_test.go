package tests

import (
	"slices"
	"strings"
	"testing"

	"loop.example/g03111/impl"
)

// TestBoxTermToMostNodes has results of just as many nodes as there may be, of one less and of one more.
func TestBoxTermToMostNodes(t *testing.T) {
	s := impl.BoundSystem(2)
	for _, c := range []struct {
		ctx, around string
		nodes, then int
	}{
		{"", "add(app(fun:1:n(x0),1),|)", 5, 8},
		{"", "open:1(box:1(fun:0:n(0)),|)", 4, 6},
		{">1.nn", "app(x0,|)", 2, 3},
		{"n", "app(fun:3:n(|),x0)", 3, 6},
		{">1.>0.nnn n", "add(app(x0,fun:0:n(1)),|)", 5, 8},
		{"", "case:1(left:>1.nn(0),|,1)", 4, 4},
	} {
		ctx := contextOf(t, c.ctx)
		for times := range 400 / c.nodes {
			for within := 399 - c.then*times; within <= 402-c.then*times; within++ {
				if within < 1 || within == 2 || c.nodes*times+within > 400 || within > 20 && times%9 > 1 {
					continue
				}
				x := parsed(t, nested(times, c.around, ofSize(within)))
				if sizeOf(x) != c.nodes*times+within {
					t.Fatalf("%s has %d nodes", textOf(x), sizeOf(x))
				}
				want := slowBoxer(s).text(ctx, x)
				if (want != "fails") != (c.then*times+within <= 400) {
					t.Fatalf("the second way of %d times %s with %d nodes within is %s", times, c.around, within, want)
				}
				if got := boxedTerm(t, s, ctx, x); got != want {
					t.Errorf("BoxTerm of %d times %s with %d nodes within is %s", times, c.around, within, got)
				}
			}
		}
	}
}

// TestBoxDeepFunctions has variables of functions that are far away.
func TestBoxDeepFunctions(t *testing.T) {
	s := impl.BoundSystem(2)
	for _, c := range []struct {
		around, within string
		times          int
		is             bool
	}{
		{"app(fun:3:n(|),x0)", "if(x65,x0,x66)", 66, true},
		{"app(fun:3:n(|),x0)", "if(x65,x0,x73)", 66, true},
		{"app(fun:3:n(|),x0)", "add(x65,add(x0,x66))", 66, false},
		{"app(fun:3:n(|),x0)", "x67", 67, false},
		{"split:3(pair(x0,1),app(fun:3:n(|),x1))", "x99", 33, true},
		{"split:3(pair(x0,1),app(fun:3:n(|),x1))", "add(x50,x99)", 33, true},
		{"case:3(left:n(x0),app(fun:3:n(|),x0),1)", "add(x78,x0)", 39, true},
		{"case:3(left:n(x0),app(fun:3:n(|),x0),1)", "x80", 40, false},
		{"open:1(box:3(x0),app(fun:3:n(|),x0))", "add(x88,x1)", 44, true},
		{"fun:1:n(|)", "x18", 18, true},
		{"fun:1:n(|)", "x19", 19, true},
	} {
		ctx := slices.Repeat([][]int{{0}}, 8)
		x := parsed(t, nested(c.times, c.around, c.within))
		if f := slowFind(s, ctx, x); f.fault != impl.FaultNone {
			t.Errorf("%s within %d of %s has no type: %s", c.within, c.times, c.around, f)
			continue
		}
		want := slowBoxer(s).text(ctx, x)
		if (want != "fails") != c.is {
			t.Errorf("the second way of %s within %d of %s is %s", c.within, c.times, c.around, want)
		}
		if got := boxedTerm(t, s, ctx, x); got != want {
			t.Errorf("BoxTerm of %s within %d of %s is %s, not %s", c.within, c.times, c.around, got, want)
		}
	}
}

// TestBoxTermToMostCodes has types within terms that become just as long as they may be, and one code longer.
func TestBoxTermToMostCodes(t *testing.T) {
	s := impl.BoundSystem(2)
	fits, long := 0, 0
	for _, c := range []struct {
		term string
		// longest is how long the type T may be before, and added is what it gets besides its arrows' boxes.
		longest, added int
	}{
		{"left:T(1)", 38, 0},
		{"right:T(1)", 38, 0},
		{"fun:0:T(1)", 38, 1},
		{"fun:2:T(left:>0.nn(1))", 34, 1},
		{"pair(1,left:T(1))", 36, 0},
		{"add(1,case:1(right:T(1),1,1))", 38, 0},
		{"add(case:1(right:T(1),1,1),1)", 38, 0},
		{"if(0,1,open:1(box:1(fun:0:T(1)),1))", 37, 1},
		{"if(0,case:2(left:T(1),1,0),1)", 38, 0},
		{"if(case:2(left:T(1),1,0),0,1)", 38, 0},
		{"split:1(pair(fun:0:T(1),1),1)", 36, 1},
		{"split:1(pair(1,1),right:T(x0))", 38, 0},
		{"case:1(left:n(1),left:T(x0),left:T(1))", 38, 0},
		{"fun:0:n(fun:0:T(1))", 36, 1},
		{"app(fun:0:n(1),case:1(left:T(1),1,1))", 38, 0},
		{"app(fun:0:+nT(1),left:T(1))", 36, 3},
		{"box:2(left:T(1))", 37, 0},
		{"open:1(box:2(1),fun:1:T(x1))", 38, 1},
	} {
		for arrows := range 20 {
			for boxes := range 38 {
				ty := arrowsAndBoxes(arrows, boxes)
				if 2*arrows+boxes+1 > c.longest {
					break
				}
				// Other results that differ by one code only are much the same.
				if n := 3*arrows + boxes + 1 + c.added; n < 39 || n > 43 {
					continue
				}
				x := parsed(t, strings.ReplaceAll(c.term, "T", ty))
				if f := slowFind(s, nil, x); f.fault != impl.FaultNone {
					t.Fatalf("%s has no type: %s", textOf(x), f)
				}
				want := slowBoxer(s).text(nil, x)
				if (want != "fails") != (3*arrows+boxes+1+c.added <= 40) {
					t.Fatalf("the second way of %s is %s", textOf(x), want)
				}
				if got := boxedTerm(t, s, nil, x); got != want {
					t.Errorf("BoxTerm of %s is %s, not %s", textOf(x), got, want)
				}
				if want == "fails" {
					long++
				} else {
					fits++
				}
			}
		}
	}
	if fits < 100 || long < 100 {
		t.Errorf("only %d terms fit, and %d are too long", fits, long)
	}
}

// TestBoxTermsWithLongTypes has types that no node has as its Type: that they become too long is of no moment.
func TestBoxTermsWithLongTypes(t *testing.T) {
	s := impl.BoundSystem(2)
	arrows := nested(19, ">2.n|", "n")
	for _, c := range []translation{
		{arrows, "x0", ""},
		{"n " + arrows, "pair(x0,box:2(x0))", ""},
		{"n " + arrows, "app(x1,x0)", "app(x1,box:2(x0))"},
		{"n " + arrows, "app(app(x1,x0),1)", "app(app(x1,box:2(x0)),box:2(1))"},
		{"!1." + nested(13, ">2.n|", "n"), "open:1(x0,pair(x0,1))", ""},
		{nested(9, ">2.n|", "n"), "pair(x0,x0)", ""},
		{"", "fun:0:" + longType(38) + "(0)", "fun:1:!0." + longType(38) + "(open:1(x0,0))"},
		{"", "fun:0:>3." + longType(36) + "n(0)", "fun:1:!0.>1.!3." + longType(36) + "n(open:1(x0,0))"},
	} {
		ctx, x, want := contextOf(t, c.ctx), parsed(t, c.term), c.want
		if want == "" {
			want = c.term
		}
		if got := boxedTerm(t, s, ctx, x); got != want {
			t.Errorf("BoxTerm of %s in %q is %s, not %s", c.term, c.ctx, got, want)
		}
	}
}

// TestForgetTermToMostNodes has results of just as many nodes as there may be, of one less and of one more; some of the
// terms have more nodes than the results.
func TestForgetTermToMostNodes(t *testing.T) {
	s := impl.BoundSystem(2)
	for _, c := range []struct {
		around      string
		nodes, then int
	}{
		{"add(open:1(x0,0),|)", 4, 5},
		{"if(0,open:2(x0,x0),|)", 5, 6},
		{"open:1(box:1(0),|)", 3, 3},
		{"open:1(box:1(box:1(0)),|)", 4, 3},
		{"split:1(pair(1,box:1(0)),|)", 5, 4},
		{"app(fun:0:!2.n(|),box:2(1))", 4, 3},
	} {
		ctx := contextOf(t, "!3.n")
		for times := range 400 / c.nodes {
			for within := 1; within <= 400-c.nodes*times; within++ {
				after := c.then*times + within
				isNear := after >= 399 && after <= 402 || c.nodes*times+within >= 399
				if within == 2 || !isNear || within > 20 && times%9 > 1 {
					continue
				}
				x := parsed(t, nested(times, c.around, ofSize(within)))
				if sizeOf(x) != c.nodes*times+within {
					t.Fatalf("%s has %d nodes", textOf(x), sizeOf(x))
				}
				want := slowForgetter(s).text(ctx, x)
				if (want != "fails") != (after <= 400) {
					t.Fatalf("the second way of %d times %s with %d nodes within is %s", times, c.around, within, want)
				}
				if got := plainTerm(t, s, ctx, x); got != want {
					t.Errorf("ForgetTerm of %d times %s with %d nodes within is %s", times, c.around, within, got)
				}
			}
		}
	}
}

// TestForgetLongTypes has types as long as there may be, and what is left of them. The type of the function that stands
// for an open may be too long: that, too, is of no moment.
func TestForgetLongTypes(t *testing.T) {
	checkForgetTerm(t, "bound 2", []translation{
		{longType(40), "x0", ""},
		{longType(40), "open:1(x0,x0)", "app(fun:1:n(x0),x0)"},
		{"!1." + power(19), "open:1(x0,1)", "app(fun:1:" + power(19) + "(1),x0)"},
		{"!1." + nested(18, ">2.n|", "n"), "open:1(x0,1)", "app(fun:1:" + nested(18, ">1.n|", "n") + "(1),x0)"},
		{"", "fun:0:" + longType(38) + "(0)", "fun:1:n(0)"},
		{"", "left:" + longType(38) + "(0)", "left:n(0)"},
		{"", "right:!2." + nested(18, ">2.n|", "n") + "(0)", "right:" + nested(18, ">1.n|", "n") + "(0)"},
		{"", "right:" + nested(18, ">2.|n", "!2.n") + "(0)", "right:" + nested(18, ">1.|n", "n") + "(0)"},
		{"", strings.Repeat("box:2(", 39) + "1" + strings.Repeat(")", 39), "1"},
	})
	s := impl.BoundSystem(2)
	for _, c := range []translation{
		{"!1." + power(20), "open:1(x0,x0)", "app(fun:1:" + power(20) + "(x0),x0)"},
		{"!1." + power(20), "open:1(x0,1)", "app(fun:1:" + power(20) + "(1),x0)"},
		{"!1." + nested(19, ">2.n|", "n"), "open:1(x0,x0)", "app(fun:1:" + nested(19, ">1.n|", "n") + "(x0),x0)"},
	} {
		if got := plainTerm(t, s, contextOf(t, c.ctx), parsed(t, c.term)); got != c.want {
			t.Errorf("ForgetTerm of %s in %q is %s, not %s", c.term, c.ctx, got, c.want)
		}
	}
}
