package tests

import (
	"maps"
	"math/rand"
	"slices"
	"strings"
	"testing"

	"loop.example/g03111/impl"
)

func TestAlikeValues(t *testing.T) {
	for _, c := range []struct {
		system, view, ty, v, w string
		want                   bool
	}{
		{"count 1", "1 2", "n", "0", "0", true},
		{"count 1", "1 2", "n", "2", "2", true},
		{"count 1", "1 2", "n", "0", "1", false},
		{"count 1", "1 2", "n", "2", "0", false},
		{"count 1", "1 2", "*nn", "pair(0,1)", "pair(0,1)", true},
		{"count 1", "1 2", "*nn", "pair(0,1)", "pair(0,2)", false},
		{"count 1", "1 2", "*nn", "pair(0,1)", "pair(1,1)", false},
		{"count 1", "1 2", "*nn", "pair(0,1)", "pair(1,0)", false},
		{"count 1", "1 2", "+nn", "left:n(1)", "left:n(1)", true},
		{"count 1", "1 2", "+nn", "right:n(1)", "right:n(1)", true},
		{"count 1", "1 2", "+nn", "left:n(1)", "left:n(2)", false},
		{"count 1", "1 2", "+nn", "right:n(1)", "right:n(0)", false},
		{"count 1", "1 2", "+nn", "left:n(1)", "right:n(1)", false},
		{"count 1", "1 2", "+nn", "right:n(0)", "left:n(0)", false},
		{"count 1", "1 2", "!0.n", "box:0(1)", "box:0(2)", true},
		{"count 1", "1 2", "!0.n", "box:0(1)", "box:0(1)", true},
		{"count 1", "1 2", "!1.n", "box:1(1)", "box:1(1)", true},
		{"count 1", "1 2", "!1.n", "box:1(1)", "box:1(2)", false},
		{"count 1", "1 2", "!2.n", "box:2(1)", "box:2(0)", false},
		{"count 1", "1 2", "*!0.n!1.n", "pair(box:0(2),box:1(1))", "pair(box:0(1),box:1(1))", true},
		{"count 1", "1 2", "*!0.n!1.n", "pair(box:0(2),box:1(1))", "pair(box:0(2),box:1(0))", false},
		{"count 1", "1 2", "*n!0.n", "pair(1,box:0(2))", "pair(1,box:0(0))", true},
		{"count 1", "1 2", "*n!0.n", "pair(1,box:0(2))", "pair(2,box:0(2))", false},
		{"count 1", "1 2", "+!0.n!1.n", "left:!1.n(box:0(1))", "left:!1.n(box:0(2))", true},
		{"count 1", "1 2", "+!0.n!1.n", "right:!0.n(box:1(1))", "right:!0.n(box:1(2))", false},
		{"count 1", "1 2", "+!0.n!0.n", "right:!0.n(box:0(1))", "right:!0.n(box:0(2))", true},
		{"count 1", "1 2", "+!0.n!0.n", "left:!0.n(box:0(1))", "right:!0.n(box:0(1))", false},
		// Boxes within boxes: the outer one, the inner one, both or neither is seen.
		{"count 1", "1 2", "!1.!0.n", "box:1(box:0(1))", "box:1(box:0(2))", true},
		{"count 1", "1 2", "!0.!1.n", "box:0(box:1(1))", "box:0(box:1(2))", true},
		{"count 1", "1 2", "!2.!1.n", "box:2(box:1(1))", "box:2(box:1(2))", false},
		{"count 1", "1 2", "!2.!1.n", "box:2(box:1(1))", "box:2(box:1(1))", true},
		{"count 1", "1 2", "!0.!0.n", "box:0(box:0(1))", "box:0(box:0(2))", true},
		{"count 1", "1 2", "!1.*!0.nn", "box:1(pair(box:0(1),2))", "box:1(pair(box:0(0),2))", true},
		{"count 1", "1 2", "!1.*!0.nn", "box:1(pair(box:0(1),2))", "box:1(pair(box:0(1),1))", false},
		// Sums and pairs within boxes that are not seen.
		{"count 1", "1 2", "!0.*nn", "box:0(pair(0,1))", "box:0(pair(2,2))", true},
		{"count 1", "1 2", "!0.+nn", "box:0(left:n(0))", "box:0(right:n(2))", true},
		{"count 1", "1 2", "!0.+n!1.n", "box:0(left:!1.n(0))", "box:0(right:n(box:1(0)))", true},
		{"count 1", "1 2", "!1.+nn", "box:1(left:n(0))", "box:1(right:n(0))", false},
		// One system with several views.
		{"level 3", "1", "!2.n", "box:2(1)", "box:2(2)", true},
		{"level 3", "1 2", "!2.n", "box:2(1)", "box:2(2)", false},
		{"level 3", "1 2", "!3.n", "box:3(1)", "box:3(2)", true},
		{"level 3", "1 2 3", "!3.n", "box:3(1)", "box:3(2)", false},
		{"level 3", "1 2 3", "!0.n", "box:0(1)", "box:0(2)", true},
		{"level 3", "1", "!1.n", "box:1(1)", "box:1(2)", false},
		{"count 1*level 1", "1 2 5", "!2.n", "box:2(1)", "box:2(2)", false},
		{"count 1*level 1", "1 3 4 5", "!2.n", "box:2(1)", "box:2(2)", true},
		{"count 1*level 1", "1 2 5", "!3.n", "box:3(1)", "box:3(2)", true},
		{"count 1*level 1", "1 3 4 5", "!3.n", "box:3(1)", "box:3(2)", false},
	} {
		s, view, ty := systemOf(t, c.system), viewOf(t, c.view), parsedType(t, c.ty)
		v, w := parsed(t, c.v), parsed(t, c.w)
		if impl.AlikeValues(s, view, ty, v, w) != c.want || impl.AlikeValues(s, view, ty, w, v) != c.want {
			t.Errorf("%s for %s: AlikeValues of %s and %s is not %v", c.system, c.view, c.v, c.w, c.want)
		}
	}
}

func TestCountSeen(t *testing.T) {
	most := sumOf(power(5), power(3), power(3), "n")
	over := sumOf(power(5), power(3), power(3), "n", "n")
	for _, c := range []struct {
		system, view, ty string
		want             int
	}{
		{"count 1", "1 2", "n", 3},
		{"count 1", "1 2", "*nn", 9},
		{"count 1", "1 2", "+nn", 6},
		{"count 1", "1 2", "!0.n", 1},
		{"count 1", "1 2", "!1.n", 3},
		{"count 1", "1 2", "!2.n", 3},
		{"count 1", "1 2", "*!0.n!1.n", 3},
		{"count 1", "1 2", "*!1.n!0.n", 3},
		{"count 1", "1 2", "*!0.n!0.n", 1},
		{"count 1", "1 2", "+!0.n!1.n", 4},
		{"count 1", "1 2", "+!1.n!0.n", 4},
		{"count 1", "1 2", "+!0.n!0.n", 2},
		{"count 1", "1 2", "!1.!0.n", 1},
		{"count 1", "1 2", "!0.!1.n", 1},
		{"count 1", "1 2", "!0.!0.n", 1},
		{"count 1", "1 2", "!2.!1.n", 3},
		{"count 1", "1 2", "!2.*n!0.n", 3},
		{"count 1", "1 2", "!2.+n!0.n", 4},
		{"count 1", "1 2", "!0.*nn", 1},
		{"count 1", "1 2", "!0.+nn", 1},
		{"level 3", "1", "*!1.n*!2.n!3.n", 3},
		{"level 3", "1 2", "*!1.n*!2.n!3.n", 9},
		{"level 3", "1 2 3", "*!1.n*!2.n!3.n", 27},
		{"level 3", "1 2", "+!1.n+!2.n+!3.n!0.n", 8},
		{"count 1*level 1", "1 2 5", "+!2.n!3.n", 4},
		{"count 1*level 1", "1 2 5", "+!2.n*n!3.n", 6},
		{"count 1*level 1", "1 3 4 5", "+!2.n*n!3.n", 10},
		// The limit is about all values, whatever the view sees of them.
		{"count 1", "1 2", most, 300},
		{"count 1", "1 2", "!0." + most, 1},
		{"count 1", "1 2", "!1." + most, 300},
		{"count 1", "1 2", over, -1},
		{"count 1", "1 2", "!0." + over, -1},
		{"count 1", "1 2", "!1." + over, -1},
		{"count 1", "1 2", "*!0." + power(4) + "n", 3},
		{"count 1", "1 2", "*!0." + power(5) + "n", -1},
		{"count 1", "1 2", power(6), -1},
		{"count 1", "1 2", "!0." + power(6), -1},
		{"count 1", "1 2", power(20), -1},
		{"count 1", "1 2", "!0." + power(19), -1},
		{"count 1", "1 2", longType(40), 3},
		// No data types of the system.
		{"count 1", "1 2", ">1.nn", -1},
		{"count 1", "1 2", "!0.>1.nn", -1},
		{"count 1", "1 2", "*n>0.nn", -1},
		{"count 1", "1 2", "!3.n", -1},
		{"count 1", "1 2", "!0.!3.n", -1},
		{"count 1", "1 2", "!?.n", -1},
	} {
		s, view, ty := systemOf(t, c.system), viewOf(t, c.view), parsedType(t, c.ty)
		if got := impl.CountSeen(s, view, ty); got != c.want {
			t.Errorf("%s for %s: CountSeen of %s is %d, not %d", c.system, c.view, c.ty, got, c.want)
		}
	}
}

func TestEraseValue(t *testing.T) {
	for _, c := range []struct{ system, view, ty, v, want string }{
		{"count 1", "1 2", "n", "2", "2"},
		{"count 1", "1 2", "*nn", "pair(1,2)", "pair(1,2)"},
		{"count 1", "1 2", "+n!1.n", "left:!1.n(2)", "left:!1.n(2)"},
		{"count 1", "1 2", "+n!1.n", "right:n(box:1(2))", "right:n(box:1(2))"},
		{"count 1", "1 2", "!0.n", "box:0(2)", "box:0(0)"},
		{"count 1", "1 2", "!0.n", "box:0(0)", "box:0(0)"},
		{"count 1", "1 2", "!1.n", "box:1(2)", "box:1(2)"},
		{"count 1", "1 2", "!2.n", "box:2(1)", "box:2(1)"},
		{"count 1", "1 2", "*!0.n!1.n", "pair(box:0(2),box:1(1))", "pair(box:0(0),box:1(1))"},
		{"count 1", "1 2", "*!1.n!0.n", "pair(box:1(2),box:0(1))", "pair(box:1(2),box:0(0))"},
		{"count 1", "1 2", "*!0.n!0.n", "pair(box:0(2),box:0(1))", "pair(box:0(0),box:0(0))"},
		{"count 1", "1 2", "+!0.n!1.n", "left:!1.n(box:0(2))", "left:!1.n(box:0(0))"},
		{"count 1", "1 2", "+!0.n!1.n", "right:!0.n(box:1(2))", "right:!0.n(box:1(2))"},
		{"count 1", "1 2", "+!1.n!0.n", "right:!1.n(box:0(2))", "right:!1.n(box:0(0))"},
		{"count 1", "1 2", "!1.!0.n", "box:1(box:0(2))", "box:1(box:0(0))"},
		{"count 1", "1 2", "!0.!1.n", "box:0(box:1(2))", "box:0(box:1(0))"},
		{"count 1", "1 2", "!0.!0.n", "box:0(box:0(2))", "box:0(box:0(0))"},
		{"count 1", "1 2", "!2.!1.n", "box:2(box:1(2))", "box:2(box:1(2))"},
		{"count 1", "1 2", "!1.*!0.nn", "box:1(pair(box:0(1),2))", "box:1(pair(box:0(0),2))"},
		{"count 1", "1 2", "!0.*!1.nn", "box:0(pair(box:1(1),2))", "box:0(pair(box:1(0),0))"},
		{"count 1", "1 2", "!0.*nn", "box:0(pair(1,2))", "box:0(pair(0,0))"},
		// What is put in is always a left, with the type of the other side.
		{"count 1", "1 2", "!0.+nn", "box:0(right:n(2))", "box:0(left:n(0))"},
		{"count 1", "1 2", "!0.+nn", "box:0(left:n(2))", "box:0(left:n(0))"},
		{"count 1", "1 2", "!0.+n!1.n", "box:0(right:n(box:1(2)))", "box:0(left:!1.n(0))"},
		{"count 1", "1 2", "!0.+!1.nn", "box:0(right:!1.n(2))", "box:0(left:n(box:1(0)))"},
		{"count 1", "1 2", "!0.+*n+nn+!2.nn", "box:0(right:*n+nn(left:n(box:2(1))))", "box:0(left:+!2.nn(pair(0,left:n(0))))"},
		{"level 3", "1", "*!1.n*!2.n!3.n", "pair(box:1(1),pair(box:2(2),box:3(1)))", "pair(box:1(1),pair(box:2(0),box:3(0)))"},
		{"level 3", "1 2", "*!1.n*!2.n!3.n", "pair(box:1(1),pair(box:2(2),box:3(1)))", "pair(box:1(1),pair(box:2(2),box:3(0)))"},
		{"level 3", "1 2 3", "*!1.n*!2.n!3.n", "pair(box:1(1),pair(box:2(2),box:3(1)))", "pair(box:1(1),pair(box:2(2),box:3(1)))"},
		{"count 1*level 1", "1 2 5", "*!2.n!3.n", "pair(box:2(1),box:3(1))", "pair(box:2(1),box:3(0))"},
		{"count 1*level 1", "1 3 4 5", "*!2.n!3.n", "pair(box:2(1),box:3(1))", "pair(box:2(0),box:3(1))"},
		// No values of the type.
		{"count 1", "1 2", "n", "add(0,1)", "fails"},
		{"count 1", "1 2", "n", "x0", "fails"},
		{"count 1", "1 2", "n", "box:0(0)", "fails"},
		{"count 1", "1 2", "!0.n", "0", "fails"},
		{"count 1", "1 2", "!0.n", "box:1(0)", "fails"},
		{"count 1", "1 2", "!0.n", "box:0(add(0,1))", "fails"},
		{"count 1", "1 2", "!0.n", "box:0(x0)", "fails"},
		{"count 1", "1 2", "!0.n", "box:?(0)", "fails"},
		{"count 1", "1 2", "!0.!1.n", "box:0(0)", "fails"},
		{"count 1", "1 2", "!0.!1.n", "box:0(box:2(0))", "fails"},
		{"count 1", "1 2", "+nn", "left:!1.n(0)", "fails"},
		{"count 1", "1 2", "*nn", "pair(0,box:0(0))", "fails"},
		// No data types of the system, though there may be terms of the type.
		{"count 1", "1 2", ">1.nn", "fun:1:n(x0)", "fails"},
		{"count 1", "1 2", "!0.>1.nn", "box:0(fun:1:n(x0))", "fails"},
		{"count 1", "1 2", "+n>1.nn", "left:>1.nn(0)", "fails"},
		{"count 1", "1 2", "!3.n", "box:3(0)", "fails"},
	} {
		s, view, ty, v := systemOf(t, c.system), viewOf(t, c.view), parsedType(t, c.ty), parsed(t, c.v)
		if got := erasedValue(t, s, view, ty, v); got != c.want {
			t.Errorf("%s for %s: EraseValue of %s is %s, not %s", c.system, c.view, c.v, got, c.want)
		}
		// What is no value is alike to nothing, not even to itself, and neither is what has one of two.
		if impl.AlikeValues(s, view, ty, v, v) != (c.want != "fails") {
			t.Errorf("%s for %s: AlikeValues of %s and itself is %v", c.system, c.view, c.v, c.want == "fails")
		}
		zero, ok := impl.ValueAt(s, ty, 0)
		if ok && c.want == "fails" && (impl.AlikeValues(s, view, ty, v, zero) || impl.AlikeValues(s, view, ty, zero, v)) {
			t.Errorf("%s for %s: %s is alike to %s", c.system, c.view, c.v, textOf(zero))
		}
	}
}

// TestViewsOfManyValues looks at types with more than MaxValues values, which are of moment to CountSeen alone.
func TestViewsOfManyValues(t *testing.T) {
	s, view := impl.CountSystem(1), []int{1, 2}
	twos := func(n int) string { return strings.Repeat("pair(2,", n-1) + "2" + strings.Repeat(")", n-1) }
	zeros := func(n int) string { return strings.ReplaceAll(twos(n), "2", "0") }
	for _, c := range []struct{ ty, v, want string }{
		{power(6), twos(6), twos(6)},
		{power(20), twos(20), twos(20)},
		{"!0." + power(6), "box:0(" + twos(6) + ")", "box:0(" + zeros(6) + ")"},
		{"!1." + power(6), "box:1(" + twos(6) + ")", "box:1(" + twos(6) + ")"},
		{"!0." + power(19), "box:0(" + twos(19) + ")", "box:0(" + zeros(19) + ")"},
		{"*!0.n" + power(6), "pair(box:0(1)," + twos(6) + ")", "pair(box:0(0)," + twos(6) + ")"},
		{longType(40), strings.Repeat("box:1(", 39) + "2" + strings.Repeat(")", 39), strings.Repeat("box:1(", 39) + "2" + strings.Repeat(")", 39)},
		{
			strings.Repeat("!0.", 39) + "n",
			strings.Repeat("box:0(", 39) + "2" + strings.Repeat(")", 39),
			strings.Repeat("box:0(", 39) + "0" + strings.Repeat(")", 39),
		},
		{"!0.+" + power(18) + "n", "box:0(right:" + power(18) + "(2))", "box:0(left:n(" + zeros(18) + "))"},
	} {
		ty, v := parsedType(t, c.ty), parsed(t, c.v)
		if got := erasedValue(t, s, view, ty, v); got != c.want {
			t.Errorf("EraseValue of %s is %s, not %s", c.v, got, c.want)
		}
		if !impl.AlikeValues(s, view, ty, v, parsed(t, c.want)) || !impl.AlikeValues(s, view, ty, v, v) {
			t.Errorf("%s is not alike to %s", c.v, c.want)
		}
		zero := parsed(t, slowDefault(ty))
		if impl.AlikeValues(s, view, ty, v, zero) != (c.want == textOf(zero)) {
			t.Errorf("AlikeValues of %s and %s is wrong", c.v, textOf(zero))
		}
	}
}

// TestViewsOfAllSmallTypes compares all values of each type with each other.
func TestViewsOfAllSmallTypes(t *testing.T) {
	for _, x := range allViews(t) {
		codes := 3
		if x.s.Size <= 3 {
			codes = 4
		}
		if x.s.Size > 6 {
			codes = 2
		}
		for _, ty := range upTo(codes, x.s.Size) {
			checkAllValues(t, x, ty)
		}
	}
}

func checkAllValues(t *testing.T, x seeing, ty []int) {
	t.Helper()
	results := map[string]int{}
	var values []impl.Term
	for _, text := range slowValues(ty) {
		v := parsed(t, text)
		values = append(values, v)
		left := erasedValue(t, x.s, x.view, ty, v)
		if want := slowErasedValue(x.view, v); left != want {
			t.Fatalf("%s: EraseValue of %s is %s, not %s", x.name, text, left, want)
		}
		if again := erasedValue(t, x.s, x.view, ty, parsed(t, left)); again != left {
			t.Fatalf("%s: EraseValue of %s, which is erased already, is %s", x.name, left, again)
		}
		if !impl.AlikeValues(x.s, x.view, ty, v, parsed(t, left)) {
			t.Fatalf("%s: %s is not alike to %s", x.name, text, left)
		}
		results[left]++
	}
	if got := impl.CountSeen(x.s, x.view, ty); got != len(results) || got != slowSeen(x.view, ty) {
		t.Fatalf("%s: CountSeen of %s is %d, with %d different results of EraseValue", x.name, typeText(ty), got, len(results))
	}
	for _, v := range values {
		for _, w := range values {
			if got, want := impl.AlikeValues(x.s, x.view, ty, v, w), slowAlike(x.view, v, w); got != want {
				t.Fatalf("%s: AlikeValues of %s and %s is %v", x.name, textOf(v), textOf(w), got)
			}
		}
	}
}

// TestViewsOfMadeTypes takes values at random, of types with any number of values.
func TestViewsOfMadeTypes(t *testing.T) {
	r := rand.New(rand.NewSource(7))
	alike, unlike, changed, many := 0, 0, 0, 0
	for _, x := range allViews(t) {
		// The laws of large systems take long to look at.
		for i := range max(20, 120-16*x.s.Size) {
			ty := madeType(r, 1+i*7%40, x.s.Size, 3)
			v, w := madeValue(r, ty), madeValue(r, ty)
			want := slowErasedValue(x.view, v)
			if got := erasedValue(t, x.s, x.view, ty, v); got != want {
				t.Fatalf("%s: EraseValue of %s is %s, not %s", x.name, textOf(v), got, want)
			}
			left := parsed(t, want)
			if !impl.AlikeValues(x.s, x.view, ty, v, left) || !impl.AlikeValues(x.s, x.view, ty, left, v) {
				t.Fatalf("%s: %s is not alike to %s", x.name, textOf(v), want)
			}
			if got, want := impl.AlikeValues(x.s, x.view, ty, v, w), slowAlike(x.view, v, w); got != want {
				t.Fatalf("%s: AlikeValues of %s and %s is %v", x.name, textOf(v), textOf(w), got)
			}
			seen := slowSeen(x.view, ty)
			if slowCount(ty) > 300 {
				seen = -1
				many++
			}
			if got := impl.CountSeen(x.s, x.view, ty); got != seen {
				t.Fatalf("%s: CountSeen of %s is %d, not %d", x.name, typeText(ty), got, seen)
			}
			if slowAlike(x.view, v, w) {
				alike++
			} else {
				unlike++
			}
			if want != textOf(v) {
				changed++
			}
		}
	}
	if alike < 300 || unlike < 300 || changed < 300 || many < 300 {
		t.Errorf("only %d alike, %d unlike, %d changed, %d of many values", alike, unlike, changed, many)
	}
}

// TestViewsOfNearMisses looks at terms that differ from a value at one place, and may be no values of its type.
func TestViewsOfNearMisses(t *testing.T) {
	values, others := 0, 0
	for _, c := range []struct{ system, view, ty, v string }{
		{"count 1", "1 2", "n", "2"},
		{"count 1", "1 2", "!0.n", "box:0(2)"},
		{"count 1", "1 2", "!0.!1.n", "box:0(box:1(2))"},
		{"count 1", "1 2", "!1.!0.n", "box:1(box:0(2))"},
		{"count 1", "1 2", "*!0.n!1.n", "pair(box:0(2),box:1(1))"},
		{"count 1", "1 2", "+!0.n!1.n", "left:!1.n(box:0(1))"},
		{"count 1", "1 2", "+n!0.n", "right:n(box:0(1))"},
		{"level 2", "1", "!2.+n*nn", "box:2(right:n(pair(1,2)))"},
		{"level 2", "1 2", "!2.+n*nn", "box:2(right:n(pair(1,2)))"},
	} {
		s, view, ty, v := systemOf(t, c.system), viewOf(t, c.view), parsedType(t, c.ty), parsed(t, c.v)
		for _, w := range nearMisses(v) {
			is := slowIsValue(s.Size, ty, w)
			want, alike := "fails", false
			if is {
				want, alike = slowErasedValue(view, w), slowAlike(view, v, w)
				values++
			} else {
				others++
			}
			if got := erasedValue(t, s, view, ty, w); got != want {
				t.Errorf("EraseValue of %s is %s, not %s", textOf(w), got, want)
			}
			if impl.AlikeValues(s, view, ty, v, w) != alike || impl.AlikeValues(s, view, ty, w, v) != alike || impl.AlikeValues(s, view, ty, w, w) != is {
				t.Errorf("AlikeValues of %s and %s is not %v", c.v, textOf(w), alike)
			}
		}
	}
	if values < 20 || others < 200 {
		t.Errorf("only %d values and %d other terms", values, others)
	}
}

func TestViewsOfInvalidValues(t *testing.T) {
	s, view := impl.CountSystem(2), []int{1, 2, 3}
	for reason, bad := range badTerms() {
		for _, v := range []impl.Term{bad, {Op: impl.TmBox, Kids: []impl.Term{bad}}, leastTerm(impl.TmPair, numberTerm(0), bad)} {
			for _, ty := range [][]int{{0}, {19, 0}, {1, 0, 0}, {2, 0, 0}, {20, 0}} {
				good := parsed(t, slowDefault(ty))
				if got := erasedValue(t, s, view, ty, v); got != "fails" {
					t.Errorf("%s: EraseValue is %s", reason, got)
				}
				if impl.AlikeValues(s, view, ty, v, v) || impl.AlikeValues(s, view, ty, good, v) || impl.AlikeValues(s, view, ty, v, good) {
					t.Errorf("%s: AlikeValues", reason)
				}
			}
		}
	}
	for reason, ty := range badTypes() {
		for _, v := range []impl.Term{numberTerm(0), parsed(t, "box:1(0)"), parsed(t, "pair(0,0)")} {
			if got := erasedValue(t, s, view, ty, v); got != "fails" || impl.AlikeValues(s, view, ty, v, v) || impl.CountSeen(s, view, ty) != -1 {
				t.Errorf("the type %s has values", reason)
			}
		}
	}
}

// checkNothingOfValues fails the test if a function answers for values of a type that has some.
func checkNothingOfValues(t *testing.T, reason string, s impl.System, view []int) {
	t.Helper()
	for _, ty := range [][]int{{0}, {20, 0}, {1, 0, 0}} {
		v := parsed(t, slowDefault(ty))
		if impl.AlikeValues(s, view, ty, v, v) {
			t.Errorf("%s: AlikeValues", reason)
		}
		if got := impl.CountSeen(s, view, ty); got != -1 {
			t.Errorf("%s: CountSeen is %d", reason, got)
		}
		if got := erasedValue(t, s, view, ty, v); got != "fails" {
			t.Errorf("%s: EraseValue is %s", reason, got)
		}
	}
}

func TestValuesForWhatIsNoView(t *testing.T) {
	for reason, bad := range badViews() {
		checkNothingOfValues(t, reason, systemOf(t, bad.system), bad.view)
	}
	for name, s := range badSystems() {
		for _, view := range [][]int{nil, {1}, {1, 2}, {1, 2, 3}} {
			checkNothingOfValues(t, name, s, view)
		}
	}
	for name, s := range lawBreakers() {
		for _, view := range subsets(s.Size) {
			checkNothingOfValues(t, name, s, view)
		}
	}
	for _, name := range slices.Sorted(maps.Keys(goodSystems())) {
		s := systemOf(t, name)
		for _, view := range subsets(s.Size) {
			if !slowIsView(s, view) {
				checkNothingOfValues(t, name+" "+strings.Join(digitsOf(view), " "), s, view)
			}
		}
		for _, g := range strange(s.Size) {
			checkNothingOfValues(t, name, s, []int{1, g})
			checkNothingOfValues(t, name, s, append(slices.Clone(slices.Concat(slowViews(s)...)), g))
		}
	}
}

func TestViewsOfValuesChangeNoArgument(t *testing.T) {
	r := rand.New(rand.NewSource(8))
	for _, x := range allViews(t) {
		for i := range 12 {
			ty := madeType(r, 1+i*3, x.s.Size, 3)
			wideType, wideView := wideList(ty), wideList(x.view)
			keepsTerms(t, "EraseValue", func(l []impl.Term) []impl.Term {
				left, _ := impl.EraseValue(x.s, wideView, wideType, l[0])
				impl.AlikeValues(x.s, wideView, wideType, l[0], l[1])
				impl.CountSeen(x.s, wideView, wideType)
				return []impl.Term{left}
			}, madeValue(r, ty), madeValue(r, ty))
			left, _ := impl.EraseValue(x.s, wideView, wideType, madeValue(r, ty))
			scribble(&left, 1000)
			if !keptList(wideType, ty) || !keptList(wideView, x.view) {
				t.Fatalf("%s: a function changes a list for the type %s, or returns its memory", x.name, typeText(ty))
			}
		}
	}
	unchanged(t, "a function of values and views", impl.LevelSystem(2), func(s impl.System) {
		v := parsed(t, "pair(box:2(1),left:n(2))")
		ty := parsedType(t, "*!2.n+nn")
		for _, view := range [][]int{{1}, {1, 2}, {2}} {
			impl.AlikeValues(s, view, ty, v, v)
			impl.CountSeen(s, view, ty)
			impl.EraseValue(s, view, ty, v)
		}
	})
}

// TestErasedValueSharesNoMemory looks at a value whose parts share their memory.
func TestErasedValueSharesNoMemory(t *testing.T) {
	ty := []int{1, 19, 2, 0, 20, 0, 19, 2, 0, 20, 0}
	content := impl.Term{Op: impl.TmRight, Type: ty[3:4], Kids: []impl.Term{parsed(t, "box:1(2)")}}
	box := impl.Term{Op: impl.TmBox, Kids: []impl.Term{content}}
	v := leastTerm(impl.TmPair, box, box)
	left, ok := impl.EraseValue(impl.CountSystem(1), []int{1, 2}, ty, v)
	if !ok || textOf(left) != "pair(box:0(left:!1.n(0)),box:0(left:!1.n(0)))" {
		t.Errorf("EraseValue is %s, %v", textOf(left), ok)
	}
	scribbleAndLook(t, "EraseValue", left)
	if textOf(v) != "pair(box:0(right:n(box:1(2))),box:0(right:n(box:1(2))))" || typeText(ty) != "*!0.+n!1.n!0.+n!1.n" {
		t.Errorf("EraseValue returns memory of its arguments")
	}
}
