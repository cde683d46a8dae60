package tests

import (
	"math/rand"
	"reflect"
	"slices"
	"strings"
	"testing"

	"loop.example/g03111/impl"
)

func TestCountOpen(t *testing.T) {
	for _, c := range []struct {
		text  string
		count int
	}{
		{"x7", 0},
		{"2", 0},
		{"fun:2:n(add(x0,x0))", 0},
		{"left:>1.n!2.n(box:0(1))", 0},
		{"fun:?:n(add(x0,x0))", 1},
		{"fun:3:>?.nn(x0)", 1},
		{"left:!?.n(1)", 1},
		{"right:!?.n(1)", 1},
		{"box:?(1)", 1},
		{"split:?(x0,x1)", 1},
		{"case:?(x0,x1,x2)", 1},
		{"open:?(x0,x1)", 1},
		{"open:1(x0,x1)", 0},
		{"fun:?:>?.!?.nn(x0)", 3},
		{"fun:1:>?.>?.!?.n!?.!?.nn(x0)", 5},
		{"fun:?:>1.nn(x0)", 1},
		{"add(box:?(1),box:?(2))", 2},
		{"if(box:?(1),box:1(1),box:?(2))", 2},
		{"box:?(box:?(box:?(box:0(box:?(0)))))", 4},
		{"pair(left:*!?.n!15.n(0),right:+>?.nn>?.nn(fun:?:n(x5)))", 4},
	} {
		if got := impl.CountOpen(parsed(t, c.text)); got != c.count {
			t.Errorf("CountOpen of %s is %d, not %d", c.text, got, c.count)
		}
	}
}

func TestOpenAll(t *testing.T) {
	for _, c := range []struct{ text, want string }{
		{"x3", "x3"},
		{"1", "1"},
		{"add(1,x0)", "add(1,x0)"},
		{"fun:2:n(add(x0,x0))", "fun:?:n(add(x0,x0))"},
		{"fun:0:>1.n!15.n(x0)", "fun:?:>?.n!?.n(x0)"},
		{"fun:1:>1.>2.nn>3.n!4.!5.n(x0)", "fun:?:>?.>?.nn>?.n!?.!?.n(x0)"},
		{"left:*n!0.n(1)", "left:*n!?.n(1)"},
		{"right:+>1.nn!0.n(1)", "right:+>?.nn!?.n(1)"},
		{"split:3(x0,x2)", "split:?(x0,x2)"},
		{"case:3(x0,x2,2)", "case:?(x0,x2,2)"},
		{"box:15(box:0(box:1(x6)))", "box:?(box:?(box:?(x6)))"},
		{"if(box:1(0),fun:2:n(0),split:3(0,1))", "if(box:?(0),fun:?:n(0),split:?(0,1))"},
		{"open:1(x0,x1)", "open:1(x0,x1)"},
		{"open:0(x0,x1)", "open:1(x0,x1)"},
		{"open:15(x0,x1)", "open:1(x0,x1)"},
		{"open:?(x0,x1)", "open:1(x0,x1)"},
		{"open:2(box:2(open:?(x0,1)),open:3(x0,box:2(x2)))", "open:1(box:?(open:1(x0,1)),open:1(x0,box:?(x2)))"},
		{"fun:2:!1.n(open:2(x0,x0))", "fun:?:!?.n(open:1(x0,x0))"},
		{"fun:?:>?.!?.nn(box:?(x0))", "fun:?:>?.!?.nn(box:?(x0))"},
		{"fun:?:>3.!?.nn(box:2(x0))", "fun:?:>?.!?.nn(box:?(x0))"},
		{"app(pair(1,2),left:n(right:n(0)))", "app(pair(1,2),left:n(right:n(0)))"},
	} {
		x := parsed(t, c.text)
		if got := opened(t, x); got != c.want {
			t.Errorf("OpenAll of %s is %s, not %s", c.text, got, c.want)
		}
		// What is open already stays as it is.
		if got := opened(t, parsed(t, c.want)); got != c.want {
			t.Errorf("OpenAll of %s is %s", c.want, got)
		}
	}
}

func TestFillOpen(t *testing.T) {
	for _, c := range []struct {
		text string
		l    []int
		want string
	}{
		{"x3", nil, "x3"},
		{"fun:2:n(x0)", []int{}, "fun:2:n(x0)"},
		{"fun:?:n(x0)", []int{0}, "fun:0:n(x0)"},
		{"fun:?:n(x0)", []int{15}, "fun:15:n(x0)"},
		{"box:?(1)", []int{0}, "box:0(1)"},
		{"box:?(1)", []int{15}, "box:15(1)"},
		{"left:>?.n!?.n(1)", []int{0, 15}, "left:>0.n!15.n(1)"},
		{"left:>?.n!?.n(1)", []int{15, 0}, "left:>15.n!0.n(1)"},
		{"right:>?.n!?.n(1)", []int{2, 1}, "right:>2.n!1.n(1)"},
		// The N of a term is ahead of its type, and that of its kids.
		{"fun:?:>?.nn(box:?(0))", []int{1, 2, 3}, "fun:1:>2.nn(box:3(0))"},
		{"fun:?:!?.n(left:!?.n(x0))", []int{3, 2, 1}, "fun:3:!2.n(left:!1.n(x0))"},
		// Arrows and boxes within each other.
		{"left:>?.!?.>?.nn!?.n(0)", []int{4, 5, 6, 7}, "left:>4.!5.>6.nn!7.n(0)"},
		{"left:!?.>?.!?.n>?.nn(0)", []int{4, 5, 6, 7}, "left:!4.>5.!6.n>7.nn(0)"},
		{"left:*>?.n!?.n+!?.n>?.nn(0)", []int{1, 2, 3, 4}, "left:*>1.n!2.n+!3.n>4.nn(0)"},
		// Kids in order, with all that is within one ahead of the next one.
		{"if(box:?(box:?(0)),box:?(0),box:?(box:?(0)))", []int{1, 2, 3, 4, 5}, "if(box:1(box:2(0)),box:3(0),box:4(box:5(0)))"},
		{"case:?(split:?(1,box:?(2)),fun:?:!?.n(0),box:?(1))", []int{1, 2, 3, 4, 5, 6}, "case:1(split:2(1,box:3(2)),fun:4:!5.n(0),box:6(1))"},
		{"open:?(box:?(0),open:?(x0,x1))", []int{9, 8, 7}, "open:9(box:8(0),open:7(x0,x1))"},
		// What is not open stays, wherever it is.
		{"fun:5:>?.!6.nn(box:?(box:7(0)))", []int{1, 2}, "fun:5:>1.!6.nn(box:2(box:7(0)))"},
		{"fun:?:>5.!?.nn(box:6(box:?(0)))", []int{1, 2, 3}, "fun:1:>5.!2.nn(box:6(box:3(0)))"},

		{"x3", []int{0}, "fails"},
		{"fun:2:n(x0)", []int{2}, "fails"},
		{"fun:?:n(x0)", nil, "fails"},
		{"fun:?:n(x0)", []int{1, 1}, "fails"},
		{"fun:?:n(x0)", []int{-1}, "fails"},
		{"fun:?:n(x0)", []int{16}, "fails"},
		{"fun:?:n(x0)", []int{1 << 62}, "fails"},
		{"fun:?:n(x0)", []int{-1 << 63}, "fails"},
		{"left:>?.n!?.n(1)", []int{0, 15, 0}, "fails"},
		{"left:>?.n!?.n(1)", []int{0}, "fails"},
		{"left:>?.n!?.n(1)", []int{0, 16}, "fails"},
		{"left:>?.n!?.n(1)", []int{0, -1}, "fails"},
		{"left:>?.n!?.n(1)", []int{16, 0}, "fails"},
		{"left:>?.n!?.n(1)", []int{-1, 0}, "fails"},
	} {
		if got := filled(t, parsed(t, c.text), c.l...); got != c.want {
			t.Errorf("FillOpen of %s and %v is %s, not %s", c.text, c.l, got, c.want)
		}
	}
}

// TestOpenPlacesOfMadeTerms compares all three functions with what can be seen in the text of a term.
func TestOpenPlacesOfMadeTerms(t *testing.T) {
	r := rand.New(rand.NewSource(9))
	for _, open := range []bool{true, false} {
		m := newTermMaker(16, open)
		for i := range 1500 {
			x, text := m.make(1+r.Intn(25), i%9)
			n := strings.Count(text, "?")
			if got := impl.CountOpen(x); got != n {
				t.Fatalf("CountOpen of %s is %d, not %d", text, got, n)
			}
			if got := opened(t, x); got != slowOpenAll(x) {
				t.Fatalf("OpenAll of %s is %s", text, got)
			}
			var l []int
			for range n {
				l = append(l, r.Intn(16))
			}
			if got := filled(t, x, l...); got != slowFillOpen(x, l) {
				t.Fatalf("FillOpen of %s and %v is %s", text, l, got)
			}
			if filled(t, x, append(slices.Clone(l), 0)...) != "fails" || n > 0 && filled(t, x, l[1:]...) != "fails" {
				t.Fatalf("FillOpen of %s takes a list that is too long or too short", text)
			}
			if n > 0 {
				l[r.Intn(n)] = []int{-1, 16}[r.Intn(2)]
				if filled(t, x, l...) != "fails" {
					t.Fatalf("FillOpen of %s takes %v", text, l)
				}
			}
		}
	}
}

// TestFillWhatWasOpened puts the grades back that OpenAll leaves open.
func TestFillWhatWasOpened(t *testing.T) {
	for name, s := range goodSystems() {
		m := newTermMaker(s.Size, false)
		for range 150 {
			made, _ := m.make(1+m.r.Intn(30), 3)
			x := plainOpens(made)
			y, ok := impl.OpenAll(x)
			if !ok {
				t.Fatalf("%s: OpenAll of %s fails", name, textOf(x))
			}
			if got := filled(t, y, gradesOf(x)...); got != textOf(x) {
				t.Fatalf("%s: FillOpen of %s is not %s, but %s", name, textOf(y), textOf(x), got)
			}
		}
	}
}

func TestOpenPlacesOfLongTerms(t *testing.T) {
	boxes := strings.Repeat("!?.", 39) + "n"
	arrows := strings.Repeat(">?.n", 19) + "!?.n"
	for _, c := range []struct {
		text  string
		count int
	}{
		{strings.Repeat("box:?(", 399) + "0" + strings.Repeat(")", 399), 399},
		{strings.Repeat("open:?(box:1(0),", 133) + "0" + strings.Repeat(")", 133), 133},
		{strings.Repeat("left:"+boxes+"(", 399) + "0" + strings.Repeat(")", 399), 399 * 39},
		{strings.Repeat("fun:?:"+boxes+"(", 399) + "x399" + strings.Repeat(")", 399), 399 * 40},
		{strings.Repeat("right:"+arrows+"(", 399) + "x7" + strings.Repeat(")", 399), 399 * 20},
		{strings.Repeat("case:?(0,1,", 133) + "x140" + strings.Repeat(")", 133), 133},
	} {
		x := parsed(t, c.text)
		if sizeOf(x) != 400 {
			t.Errorf("%.40s has %d nodes", c.text, sizeOf(x))
		}
		if got := impl.CountOpen(x); got != c.count {
			t.Errorf("CountOpen of %.40s is %d, not %d", c.text, got, c.count)
		}
		if got := opened(t, x); got != slowOpenAll(x) {
			t.Errorf("OpenAll of %.40s is %.60s", c.text, got)
		}
		l := make([]int, c.count)
		for i := range l {
			l[i] = i % 16
		}
		if got := filled(t, x, l...); got != slowFillOpen(x, l) {
			t.Errorf("FillOpen of %.40s is %.60s", c.text, got)
		}
		l[c.count-1] = 16
		if filled(t, x, l...) != "fails" || filled(t, x, l[:c.count-1]...) != "fails" || filled(t, x, append(l, 0)...) != "fails" {
			t.Errorf("FillOpen of %.40s takes a list that is not right at the end", c.text)
		}
	}
}

// notWritten are terms that would be written if grades that have no place in them were filled, or others left out.
func notWritten() map[string]impl.Term {
	all := badTerms()
	all["open beside a type with 37"] = impl.Term{Op: impl.TmFun, N: -1, Type: []int{35, 37, 0, 0}, Kids: []impl.Term{numberTerm(0)}}
	all["401 boxes"] = boxed(401, numberTerm(0))
	x := numberTerm(0)
	for range 400 {
		x = impl.Term{Op: impl.TmBox, N: -1, Kids: []impl.Term{x}}
	}
	all["400 open boxes"] = x
	for op := impl.TmVar; op <= impl.TmOpen; op++ {
		bad := leastTerm(op, slices.Repeat([]impl.Term{numberTerm(0)}, len(rows[op].adds))...)
		bad.N = -1
		if rows[op].graded {
			bad.Kids[len(bad.Kids)-1] = impl.Term{Op: impl.TmNum, N: -1}
		}
		all["open where no grade is: "+rows[op].word] = bad
		all["open where no grade is: kid "+rows[op].word] = leastTerm(impl.TmBox, bad)
	}
	for _, ty := range [][]int{{-1}, {-1, 0}, {35, 0}, {36}, {36, 0, 0}, {35, -1, 0}, slices.Concat(slices.Repeat([]int{36}, 40), []int{0})} {
		text := strings.Join(digitsOf(ty), " ")
		all["type "+text] = impl.Term{Op: impl.TmLeft, Type: ty, Kids: []impl.Term{numberTerm(0)}}
		all["open with type "+text] = impl.Term{Op: impl.TmFun, N: -1, Type: ty, Kids: []impl.Term{numberTerm(0)}}
	}
	return all
}

func TestOpenPlacesOfBadTerms(t *testing.T) {
	for reason, x := range notWritten() {
		if got := impl.CountOpen(x); got != -1 {
			t.Errorf("%s: CountOpen is %d", reason, got)
		}
		if y, ok := impl.OpenAll(x); ok || !isZeroTerm(y) {
			t.Errorf("%s: OpenAll does not fail", reason)
		}
		for _, n := range []int{0, 1, 2, 3, 40, 400} {
			if y, ok := impl.FillOpen(x, make([]int, n)); ok || !isZeroTerm(y) {
				t.Errorf("%s: FillOpen does not fail for %d elements", reason, n)
			}
		}
		if y, ok := impl.InferGrades(impl.BoundSystem(14), x); ok || !isZeroTerm(y) {
			t.Errorf("%s: InferGrades does not fail", reason)
		}
	}
}

func TestOpenPlacesOfSharedTerms(t *testing.T) {
	// All kids of one depth are the same memory, and each is filled by itself.
	x := impl.Term{Op: impl.TmBox, N: -1, Kids: []impl.Term{numberTerm(0)}}
	for range 6 {
		x = leastTerm(impl.TmPair, x, x)
	}
	l := make([]int, 64)
	for i := range l {
		l[i] = i % 16
	}
	if got := impl.CountOpen(x); got != 64 {
		t.Errorf("CountOpen is %d", got)
	}
	if got := filled(t, x, l...); got != slowFillOpen(x, l) {
		t.Errorf("FillOpen is %s", got)
	}
}

func TestOpenPlacesKeepArguments(t *testing.T) {
	m := newTermMaker(16, true)
	for range 200 {
		x, text := m.make(1+m.r.Intn(20), 2)
		l := wideList(make([]int, strings.Count(text, "?")))
		wide := copyOfTerm(x)
		before, beforeList := dump(reflect.ValueOf(wide)), dump(reflect.ValueOf(l))
		impl.CountOpen(wide)
		y, _ := impl.OpenAll(wide)
		z, ok := impl.FillOpen(wide, l)
		if !ok || dump(reflect.ValueOf(wide)) != before || dump(reflect.ValueOf(l)) != beforeList {
			t.Fatalf("an argument is changed: %s", text)
		}
		if !ownsMemory([]impl.Term{y, z}, wide, l) {
			t.Fatalf("a result shares memory: %s", text)
		}
	}
	keepsTerms(t, "OpenAll, FillOpen", func(l []impl.Term) []impl.Term {
		y, _ := impl.OpenAll(l[0])
		z, _ := impl.FillOpen(l[0], []int{1, 2, 3})
		u, _ := impl.FillOpen(l[1], nil)
		return []impl.Term{y, z, u}
	}, parsed(t, "fun:?:>?.!?.nn(box:1(x0))"), parsed(t, "pair(x0,left:n(1))"))
}
