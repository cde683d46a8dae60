package tests

import (
	"slices"
	"strconv"
	"strings"
	"testing"

	"loop.example/g03111/impl"
)

// contractions has redexes of each form, and what they become.
func contractions() map[string]string {
	return map[string]string{
		"add(0,0)": "0", "add(0,1)": "1", "add(0,2)": "2",
		"add(1,0)": "1", "add(1,1)": "2", "add(1,2)": "0",
		"add(2,0)": "2", "add(2,1)": "0", "add(2,2)": "1",

		"if(0,x1,x2)":                    "x1",
		"if(1,x1,x2)":                    "x2",
		"if(2,x1,x2)":                    "x2",
		"if(0,add(1,1),if(0,0,1))":       "add(1,1)",
		"if(2,add(1,1),if(0,0,1))":       "if(0,0,1)",
		"if(1,x7,box:?(add(x0,x7)))":     "box:?(add(x0,x7))",
		"if(0,left:*n!?.n(x3),x0)":       "left:*n!?.n(x3)",
		"if(1,0,split:2(x1,if(0,x1,1)))": "split:2(x1,if(0,x1,1))",

		"app(fun:2:n(add(x0,x0)),2)":                               "add(2,2)",
		"app(fun:1:n(x0),x0)":                                      "x0",
		"app(fun:1:n(x0),x7)":                                      "x7",
		"app(fun:1:n(x1),x7)":                                      "x0",
		"app(fun:1:n(x8),x0)":                                      "x7",
		"app(fun:0:n(2),x5)":                                       "2",
		"app(fun:1:n(pair(x0,pair(x1,x2))),x1)":                    "pair(x1,pair(x0,x1))",
		"app(fun:1:n(fun:1:n(pair(x0,pair(x1,x2)))),x0)":           "fun:1:n(pair(x0,pair(x1,x1)))",
		"app(fun:1:n(fun:1:n(pair(x0,pair(x1,x2)))),x3)":           "fun:1:n(pair(x0,pair(x4,x1)))",
		"app(fun:1:n(fun:1:n(x1)),fun:1:n(add(x0,x1)))":            "fun:1:n(fun:1:n(add(x0,x2)))",
		"app(fun:1:n(fun:1:n(x1)),fun:1:n(fun:1:n(x2)))":           "fun:1:n(fun:1:n(fun:1:n(x3)))",
		"app(fun:1:n(split:1(x0,add(x0,x2))),x0)":                  "split:1(x0,add(x0,x2))",
		"app(fun:1:n(split:1(x1,add(x2,x3))),x4)":                  "split:1(x0,add(x6,x2))",
		"app(fun:1:n(case:1(x0,x1,x2)),x4)":                        "case:1(x4,x5,x1)",
		"app(fun:1:n(open:1(x1,add(x0,x1))),x4)":                   "open:1(x0,add(x0,x5))",
		"app(fun:1:n(x0),fun:1:n(app(x0,x1)))":                     "fun:1:n(app(x0,x1))",
		"app(fun:1:n(app(fun:1:n(x0),x0)),add(1,1))":               "app(fun:1:n(x0),add(1,1))",
		"app(fun:1:n(add(x0,x0)),app(fun:1:n(x0),x2))":             "add(app(fun:1:n(x0),x2),app(fun:1:n(x0),x2))",
		"app(fun:?:>?.n!?.n(box:?(x0)),left:!?.n(x1))":             "box:?(left:!?.n(x1))",
		"app(fun:15:>3.n!2.n(fun:4:+nn(x1)),right:*nn(x0))":        "fun:4:+nn(right:*nn(x1))",
		"app(fun:0:n(app(x0,x0)),fun:0:n(app(x0,x0)))":             "app(fun:0:n(app(x0,x0)),fun:0:n(app(x0,x0)))",
		"app(fun:1:n(split:?(x0,case:?(x1,x0,open:?(x0,x3)))),x1)": "split:?(x1,case:?(x1,x0,open:?(x0,x3)))",

		"split:1(pair(x0,2),pair(x0,pair(x1,x2)))":                                "pair(2,pair(x0,x0))",
		"split:1(pair(1,2),x0)":                                                   "2",
		"split:1(pair(1,2),x1)":                                                   "1",
		"split:1(pair(1,2),x2)":                                                   "x0",
		"split:1(pair(1,2),x9)":                                                   "x7",
		"split:1(pair(1,2),0)":                                                    "0",
		"split:1(pair(x7,x6),x0)":                                                 "x6",
		"split:1(pair(x7,x6),x1)":                                                 "x7",
		"split:1(pair(x0,x1),pair(x0,pair(x1,pair(x2,x3))))":                      "pair(x1,pair(x0,pair(x0,x1)))",
		"split:1(pair(x1,x0),pair(x0,pair(x1,pair(x2,x3))))":                      "pair(x0,pair(x1,pair(x0,x1)))",
		"split:2(pair(x0,x0),add(add(x0,x0),add(x1,x1)))":                         "add(add(x0,x0),add(x0,x0))",
		"split:0(pair(x3,x5),fun:1:n(pair(x0,pair(x1,pair(x2,x3)))))":             "fun:1:n(pair(x0,pair(x6,pair(x4,x1))))",
		"split:?(pair(fun:1:n(add(x0,x1)),fun:1:n(x1)),fun:1:n(app(x1,x2)))":      "fun:1:n(app(fun:1:n(x2),fun:1:n(add(x0,x2))))",
		"split:1(pair(x1,x2),split:1(x0,pair(pair(x0,x1),pair(x2,pair(x3,x4)))))": "split:1(x2,pair(pair(x0,x1),pair(x4,pair(x3,x2))))",
		"split:1(pair(add(1,1),pair(0,x0)),split:1(x0,x3))":                       "split:1(pair(0,x0),add(1,1))",

		"case:1(left:n(x2),pair(x0,x1),0)":                       "pair(x2,x0)",
		"case:1(right:n(x2),0,pair(x0,x1))":                      "pair(x2,x0)",
		"case:1(left:n(1),x0,add(x0,x0))":                        "1",
		"case:1(right:n(1),x0,add(x0,x1))":                       "add(1,x0)",
		"case:1(left:n(1),x8,0)":                                 "x7",
		"case:1(right:n(1),0,x8)":                                "x7",
		"case:?(left:>?.nn(x7),fun:?:n(pair(x0,pair(x1,x2))),0)": "fun:?:n(pair(x0,pair(x8,x1)))",
		"case:0(right:*nn(x7),0,fun:0:n(pair(x0,pair(x1,x2))))":  "fun:0:n(pair(x0,pair(x8,x1)))",
		"case:1(left:n(fun:1:n(pair(x0,x1))),open:1(x1,x1),x1)":  "open:1(x0,fun:1:n(pair(x0,x2)))",
		"case:1(right:n(case:1(x0,x0,x1)),x1,case:1(x0,x1,x2))":  "case:1(case:1(x0,x0,x1),case:1(x1,x0,x2),x1)",

		"open:1(box:0(x2),pair(x0,x1))":                    "pair(x2,x0)",
		"open:1(box:3(1),x0)":                              "1",
		"open:0(box:1(x5),2)":                              "2",
		"open:1(box:1(0),x8)":                              "x7",
		"open:?(box:?(x7),fun:1:n(pair(x0,pair(x1,x2))))":  "fun:1:n(pair(x0,pair(x8,x1)))",
		"open:2(box:9(fun:1:n(add(x0,x1))),open:1(x0,x1))": "open:1(fun:1:n(add(x0,x1)),fun:1:n(add(x0,x2)))",
		"open:1(box:1(box:1(x0)),open:1(x0,add(x0,x2)))":   "open:1(box:1(x0),add(x0,x1))",
	}
}

func TestContract(t *testing.T) {
	for text, want := range contractions() {
		x := parsed(t, text)
		if !impl.IsRedex(x) || impl.IsNormal(x) {
			t.Errorf("%s is no redex", text)
		}
		if l := impl.RedexesOf(x); len(l) == 0 || len(l[0]) > 0 {
			t.Errorf("the redexes of %s are %v", text, l)
		}
		got, ok := impl.Contract(x)
		checkTerm(t, "Contract of "+text, got, ok, want)
		got, ok = impl.StepTerm(x)
		checkTerm(t, "StepTerm of "+text, got, ok, want)
		for _, path := range [][]int{nil, {}} {
			got, ok = impl.ContractAt(x, path)
			checkTerm(t, "ContractAt the root of "+text, got, ok, want)
		}
		around := leastTerm(impl.TmPair, variableTerm(7), leastTerm(impl.TmFun, leastTerm(impl.TmBox, x)))
		got, ok = impl.ContractAt(around, []int{1, 0, 0})
		checkTerm(t, "ContractAt a path to "+text, got, ok, "pair(x7,fun:1:n(box:1("+want+")))")
	}
}

func TestTermsThatAreNoRedexes(t *testing.T) {
	for _, text := range []string{
		"x0", "2", "pair(1,1)", "left:n(1)", "right:n(1)", "fun:1:n(x0)", "box:1(0)",
		"add(x0,1)", "add(1,x0)", "add(x0,x1)", "add(1,add(1,1))", "add(add(1,1),1)", "add(box:1(1),1)", "add(1,box:1(1))",
		"if(x0,0,1)", "if(add(0,0),0,1)", "if(pair(0,0),0,1)", "if(box:1(0),0,1)", "if(x0,add(0,0),add(1,1))",
		"app(x0,1)", "app(1,x0)", "app(1,fun:1:n(x0))", "app(app(fun:1:n(x0),0),1)", "app(box:1(fun:1:n(x0)),1)",
		"app(pair(fun:1:n(x0),fun:1:n(x0)),1)", "app(if(0,fun:1:n(x0),fun:1:n(0)),1)", "app(left:n(0),1)",
		"split:1(x0,x0)", "split:1(0,x0)", "split:1(left:n(0),x0)", "split:1(box:1(pair(0,1)),x0)",
		"split:1(if(0,pair(0,1),pair(1,0)),x0)", "split:1(split:1(pair(0,1),pair(x0,x1)),x0)", "split:1(x0,pair(x0,x1))",
		"case:1(x0,x0,x0)", "case:1(0,x0,x0)", "case:1(pair(0,1),x0,x0)", "case:1(box:1(left:n(0)),x0,x0)",
		"case:1(x0,left:n(0),right:n(0))", "case:1(case:1(left:n(0),left:n(0),right:n(0)),x0,x0)", "case:1(fun:1:n(0),x0,x0)",
		"open:1(x0,x0)", "open:1(0,x0)", "open:1(fun:1:n(x0),x0)", "open:1(left:n(0),x0)", "open:1(pair(0,0),x0)",
		"open:1(x0,box:1(x0))", "open:1(open:1(box:1(0),box:1(0)),x0)",
		"pair(add(1,1),app(fun:1:n(x0),0))", "box:1(open:1(box:1(0),x0))", "fun:1:n(app(fun:1:n(x0),0))", "left:n(add(1,1))",
	} {
		x := parsed(t, text)
		got, ok := impl.Contract(x)
		if impl.IsRedex(x) || ok || !isZeroTerm(got) {
			t.Errorf("%s is a redex that becomes %s", text, textOf(got))
		}
		if got, ok := impl.ContractAt(x, nil); ok || !isZeroTerm(got) {
			t.Errorf("ContractAt the root of %s is %s", text, textOf(got))
		}
		around := leastTerm(impl.TmPair, x, leastTerm(impl.TmBox, x))
		for _, path := range [][]int{nil, {0}, {1}, {1, 0}} {
			if got, ok := impl.ContractAt(around, path); ok || !isZeroTerm(got) {
				t.Errorf("ContractAt %v of %s is %s", path, textOf(around), textOf(got))
			}
		}
	}
}

// TestEachOpOverEachOp looks at all forms of the first and the second kid.
func TestEachOpOverEachOp(t *testing.T) {
	terms := func(op int) impl.Term {
		return leastTerm(op, slices.Repeat([]impl.Term{variableTerm(0)}, len(rows[op].adds))...)
	}
	redexes := 0
	for op, r := range rows {
		for head := range rows {
			for second := range rows {
				if len(r.adds) == 0 {
					continue
				}
				kids := []impl.Term{terms(head), terms(second), variableTerm(1)}
				x := leastTerm(op, kids[:len(r.adds)]...)
				_, ok := impl.Contract(x)
				if want := slowIsRedex(x); impl.IsRedex(x) != want || ok != want {
					t.Errorf("%s: IsRedex is not %v, or Contract is %v", textOf(x), want, ok)
				} else if want {
					redexes++
				}
			}
		}
	}
	// All second kids go with if, app, split, both cases, and open; a number alone with add.
	if redexes != 6*13+1 {
		t.Errorf("%d of the terms were redexes", redexes)
	}
}

// TestMadeRedexes holds all functions against terms with names.
func TestMadeRedexes(t *testing.T) {
	contracted, deep := 0, 0
	for _, x := range madeRedexes(t, 1000) {
		text := textOf(x)
		var paths [][]int
		for _, p := range placesOf(x) {
			want := ""
			if slowIsRedex(p.term) {
				paths = append(paths, p.path)
				contracted++
				if p.added > 0 {
					deep++
				}
				if y := slowContractAt(x, p.path); sizeOf(y) <= 400 {
					want = textOf(y)
				}
			}
			got, ok := impl.ContractAt(x, p.path)
			checkTerm(t, "ContractAt "+strings.Join(digitsOf(p.path), " ")+" of "+text, got, ok, want)
			if impl.IsRedex(p.term) != (slowIsRedex(p.term) && slowIsTerm(p.term, 16, true, 8)) {
				t.Fatalf("IsRedex of %s is wrong", textOf(p.term))
			}
			if len(p.path) == 0 {
				got, ok = impl.Contract(x)
				checkTerm(t, "Contract of "+text, got, ok, want)
			}
		}
		if got := impl.RedexesOf(x); pathsText(got) != pathsText(paths) {
			t.Fatalf("RedexesOf %s is %v, not %v", text, got, paths)
		}
		if impl.IsNormal(x) != (len(paths) == 0) {
			t.Fatalf("IsNormal of %s is wrong", text)
		}
		want := ""
		if len(paths) > 0 {
			if y := slowContractAt(x, paths[0]); sizeOf(y) <= 400 {
				want = textOf(y)
			}
		}
		got, ok := impl.StepTerm(x)
		checkTerm(t, "StepTerm of "+text, got, ok, want)
	}
	if contracted < 1000 || deep < 500 {
		t.Errorf("there were only %d redexes, %d of them under variables that are added", contracted, deep)
	}
}

func TestRedexesOf(t *testing.T) {
	for _, c := range []struct{ text, paths string }{
		{"x0", ""},
		{"pair(x0,fun:1:n(x0))", ""},
		{"add(1,1)", ". "},
		{"pair(add(1,1),if(1,0,2))", ".0 .1 "},
		{"add(add(1,1),add(1,1))", ".0 .1 "},
		{"if(0,add(1,1),app(fun:1:n(add(1,2)),add(0,0)))", ". .1 .2 .2.0.0 .2.1 "},
		{"app(fun:1:n(app(fun:1:n(x0),x0)),app(fun:1:n(x0),0))", ". .0.0 .1 "},
		{"app(app(fun:1:n(x0),fun:1:n(x0)),0)", ".0 "},
		{"split:1(pair(add(1,1),add(1,2)),split:1(pair(x0,x1),add(0,0)))", ". .0.0 .0.1 .1 .1.1 "},
		{"case:1(left:n(add(0,1)),case:1(right:n(x0),0,add(1,1)),open:1(box:1(x0),x0))", ". .0.0 .1 .1.2 .2 "},
		{"open:1(box:1(open:1(box:1(0),x0)),open:1(box:1(x0),add(2,2)))", ". .0.0 .1 .1.1 "},
		{"if(if(0,0,0),if(if(1,0,0),0,0),if(2,if(0,0,0),0))", ".0 .1.0 .2 .2.1 "},
		{"box:?(left:n(right:n(fun:?:n(add(1,1)))))", ".0.0.0.0 "},
		{"fun:1:n(fun:1:n(split:1(x9,app(fun:1:n(x12),x11))))", ".0.0.1 "},
	} {
		x := parsed(t, c.text)
		got := impl.RedexesOf(x)
		if pathsText(got) != c.paths {
			t.Errorf("RedexesOf %s is %v, not %s", c.text, got, c.paths)
		}
		if impl.IsNormal(x) != (c.paths == "") {
			t.Errorf("IsNormal of %s is wrong", c.text)
		}
		for _, path := range got {
			if _, ok := impl.ContractAt(x, path); !ok {
				t.Errorf("ContractAt %v of %s fails", path, c.text)
			}
		}
	}
}

// TestRedexesOfMostNodes looks at long paths, and at many.
func TestRedexesOfMostNodes(t *testing.T) {
	x, path := leastTerm(impl.TmAdd, numberTerm(1), numberTerm(1)), []int{}
	want := [][]int{path}
	for sizeOf(x)+3 <= 400 {
		x = leastTerm(impl.TmIf, numberTerm(0), x, numberTerm(2))
		want = append(want, slices.Repeat([]int{1}, len(want)))
	}
	if sizeOf(x) != 399 || pathsText(impl.RedexesOf(x)) != pathsText(want) {
		t.Errorf("RedexesOf a tower of redexes is %v", impl.RedexesOf(x))
	}
	x = boxed(1, x)
	if got := impl.RedexesOf(x); len(got) != len(want) || len(got[0]) != 1 || len(got[len(want)-1]) != len(want) {
		t.Errorf("RedexesOf 400 nodes is %v", got)
	}
	if got := impl.RedexesOf(boxed(1, x)); got != nil || impl.IsNormal(boxed(1, x)) {
		t.Errorf("RedexesOf 401 nodes is %v", got)
	}
	for name, x := range towers(400) {
		if got := impl.RedexesOf(x); (len(got) == 0) != impl.IsNormal(x) {
			t.Errorf("%s: RedexesOf 400 nodes is %v", name, got)
		}
	}
}

func TestTermAt(t *testing.T) {
	for _, c := range []struct {
		text string
		path []int
		want string
	}{
		{"x0", nil, "x0"},
		{"x0", []int{0}, ""},
		{"x0", []int{-1}, ""},
		{"2", []int{}, "2"},
		{"2", []int{0}, ""},
		{"add(x1,2)", nil, "add(x1,2)"},
		{"add(x1,2)", []int{0}, "x1"},
		{"add(x1,2)", []int{1}, "2"},
		{"add(x1,2)", []int{2}, ""},
		{"add(x1,2)", []int{-1}, ""},
		{"add(x1,2)", []int{0, 0}, ""},
		{"add(x1,2)", []int{1, 0}, ""},
		{"if(0,1,2)", []int{2}, "2"},
		{"if(0,1,2)", []int{3}, ""},
		{"fun:1:n(x8)", []int{0}, "x8"},
		{"fun:1:n(x8)", []int{1}, ""},
		{"split:1(x7,pair(x9,x0))", []int{1, 0}, "x9"},
		{"split:1(x7,pair(x9,x0))", []int{1}, "pair(x9,x0)"},
		{"split:1(x7,pair(x9,x0))", []int{0}, "x7"},
		{"case:?(0,fun:?:>?.nn(x9),open:1(x8,x9))", []int{1}, "fun:?:>?.nn(x9)"},
		{"case:?(0,fun:?:>?.nn(x9),open:1(x8,x9))", []int{2, 1}, "x9"},
		{"case:?(0,fun:?:>?.nn(x9),open:1(x8,x9))", []int{2, 1, 0}, ""},
		{"case:?(0,fun:?:>?.nn(x9),open:1(x8,x9))", []int{2, 2}, ""},
		{"box:1(left:n(right:!2.n(x3)))", []int{0, 0, 0}, "x3"},
		{"box:1(left:n(right:!2.n(x3)))", []int{0, 0}, "right:!2.n(x3)"},
		{"box:1(left:n(right:!2.n(x3)))", []int{0, 0, 0, 0}, ""},
	} {
		got, ok := impl.TermAt(parsed(t, c.text), c.path)
		checkTerm(t, "TermAt "+strings.Join(digitsOf(c.path), " ")+" of "+c.text, got, ok, c.want)
	}
	x := boxed(399, variableTerm(7))
	for _, n := range []int{0, 1, 398, 399} {
		got, ok := impl.TermAt(x, make([]int, n))
		checkTerm(t, strconv.Itoa(n)+" steps down", got, ok, textOf(boxed(399-n, variableTerm(7))))
	}
	for _, n := range []int{400, 401, 1000000} {
		got, ok := impl.TermAt(x, make([]int, n))
		checkTerm(t, strconv.Itoa(n)+" steps down", got, ok, "")
	}
}

func TestTermAtAndReplaceAtOfMadeTerms(t *testing.T) {
	m := newTermMaker(16, true)
	count := [2]int{}
	for i := range 400 {
		x, text := m.make(1+i%40, 8)
		for _, p := range placesOf(x) {
			at := strings.Join(digitsOf(p.path), " ") + " of " + text
			got, ok := impl.TermAt(x, p.path)
			checkTerm(t, "TermAt "+at, got, ok, textOf(p.term))
			got, ok = impl.ReplaceAt(x, p.path, p.term)
			checkTerm(t, "ReplaceAt with what is there, at "+at, got, ok, text)
			for _, k := range []int{-1, len(p.term.Kids), 1<<63 - 1} {
				got, ok = impl.TermAt(x, append(slices.Clone(p.path), k))
				checkTerm(t, "TermAt a kid that is none, at "+at, got, ok, "")
				got, ok = impl.ReplaceAt(x, append(slices.Clone(p.path), k), numberTerm(0))
				checkTerm(t, "ReplaceAt a kid that is none, at "+at, got, ok, "")
			}
			// One index more than there are variables, so that some terms are out of range.
			u, put := m.make(1+m.r.Intn(5), 9+p.added)
			want := ""
			if slowIsTerm(u, 16, true, 8+p.added) {
				want = textOf(slowReplaceAt(x, p.path, u))
				count[0]++
			} else {
				count[1]++
			}
			got, ok = impl.ReplaceAt(x, p.path, u)
			checkTerm(t, "ReplaceAt with "+put+" at "+at, got, ok, want)
		}
	}
	if count[0] < 1000 || count[1] < 500 {
		t.Errorf("of the terms that were put somewhere, %v were in range and out of it", count)
	}
}

func TestReplaceAt(t *testing.T) {
	for _, c := range []struct {
		text string
		path []int
		u    impl.Term
		want string
	}{
		{"x0", nil, variableTerm(7), "x7"},
		{"x0", nil, variableTerm(8), ""},
		{"x0", []int{0}, numberTerm(0), ""},
		{"add(1,1)", nil, parsed(t, "fun:?:>?.nn(x8)"), "fun:?:>?.nn(x8)"},
		{"pair(add(1,1),2)", []int{0}, variableTerm(3), "pair(x3,2)"},
		{"pair(add(1,1),2)", []int{1}, variableTerm(3), "pair(add(1,1),x3)"},
		{"pair(add(1,1),2)", []int{0, 1}, variableTerm(3), "pair(add(1,x3),2)"},
		{"pair(add(1,1),2)", []int{1}, variableTerm(8), ""},
		{"pair(add(1,1),2)", []int{2}, variableTerm(3), ""},
		{"pair(add(1,1),2)", []int{-1}, variableTerm(3), ""},
		{"pair(add(1,1),2)", []int{1, 0}, variableTerm(3), ""},
		{"pair(add(1,1),2)", []int{0, 0, 0}, variableTerm(3), ""},
		{"fun:1:n(x0)", []int{0}, variableTerm(0), "fun:1:n(x0)"},
		{"fun:1:n(x0)", []int{0}, variableTerm(8), "fun:1:n(x8)"},
		{"fun:1:n(x0)", []int{0}, variableTerm(9), ""},
		{"fun:1:n(x0)", []int{0}, variableTerm(-1), ""},
		{"split:1(x0,x1)", []int{0}, variableTerm(8), ""},
		{"split:1(x0,x1)", []int{1}, variableTerm(9), "split:1(x0,x9)"},
		{"split:1(x0,x1)", []int{1}, variableTerm(10), ""},
		{"case:1(0,1,2)", []int{0}, variableTerm(8), ""},
		{"case:1(0,1,2)", []int{1}, variableTerm(8), "case:1(0,x8,2)"},
		{"case:1(0,1,2)", []int{2}, variableTerm(8), "case:1(0,1,x8)"},
		{"case:1(0,1,2)", []int{2}, variableTerm(9), ""},
		{"open:1(0,1)", []int{0}, variableTerm(8), ""},
		{"open:1(0,1)", []int{1}, variableTerm(8), "open:1(0,x8)"},
		{"open:1(0,1)", []int{1}, variableTerm(9), ""},
		{"fun:1:n(split:1(0,fun:1:n(0)))", []int{0, 1, 0}, variableTerm(11), "fun:1:n(split:1(0,fun:1:n(x11)))"},
		{"fun:1:n(split:1(0,fun:1:n(0)))", []int{0, 1, 0}, variableTerm(12), ""},
		{"fun:1:n(split:1(0,fun:1:n(0)))", []int{0, 0}, variableTerm(8), "fun:1:n(split:1(x8,fun:1:n(0)))"},
		{"box:1(0)", []int{0}, leastTerm(impl.TmFun, variableTerm(8)), "box:1(fun:1:n(x8))"},
		{"box:1(0)", []int{0}, leastTerm(impl.TmFun, variableTerm(9)), ""},
		{"fun:1:n(0)", []int{0}, leastTerm(impl.TmSplit, variableTerm(8), variableTerm(10)), "fun:1:n(split:1(x8,x10))"},
		{"fun:1:n(0)", []int{0}, leastTerm(impl.TmSplit, variableTerm(9), variableTerm(10)), ""},
		{"fun:1:n(0)", []int{0}, leastTerm(impl.TmSplit, variableTerm(8), variableTerm(11)), ""},
	} {
		got, ok := impl.ReplaceAt(parsed(t, c.text), c.path, c.u)
		checkTerm(t, "ReplaceAt "+strings.Join(digitsOf(c.path), " ")+" of "+c.text+" with "+textOf(c.u), got, ok, c.want)
	}
}

func TestReplaceAtUpToMostNodes(t *testing.T) {
	zero := numberTerm(0)
	for _, c := range []struct {
		t    impl.Term
		path []int
		u    impl.Term
	}{
		{zero, nil, boxed(399, zero)},
		{zero, nil, boxed(400, zero)},
		{boxed(399, zero), nil, boxed(399, zero)},
		{boxed(399, zero), nil, zero},
		{boxed(399, zero), make([]int, 399), zero},
		{boxed(399, zero), make([]int, 399), boxed(1, zero)},
		{boxed(399, zero), make([]int, 200), boxed(199, zero)},
		{boxed(399, zero), make([]int, 200), boxed(200, zero)},
		{leastTerm(impl.TmPair, boxed(199, zero), zero), []int{1}, boxed(198, zero)},
		{leastTerm(impl.TmPair, boxed(199, zero), zero), []int{1}, boxed(199, zero)},
		{leastTerm(impl.TmPair, boxed(199, zero), boxed(198, zero)), []int{0}, boxed(199, zero)},
		{leastTerm(impl.TmPair, boxed(199, zero), boxed(198, zero)), []int{0}, boxed(200, zero)},
		{leastTerm(impl.TmPair, boxed(199, zero), boxed(198, zero)), []int{0}, boxed(399, zero)},
		{leastTerm(impl.TmFun, zero), []int{0}, boxed(398, variableTerm(8))},
		{leastTerm(impl.TmFun, zero), []int{0}, boxed(399, variableTerm(8))},
		{leastTerm(impl.TmFun, zero), []int{0}, doubled(60)},
	} {
		want := slowReplaceAt(c.t, c.path, c.u)
		text := ""
		if impl.IsWritten(want) {
			text = textOf(want)
		}
		got, ok := impl.ReplaceAt(c.t, c.path, c.u)
		checkTerm(t, "ReplaceAt up to most nodes", got, ok, text)
	}
	// A term with too many nodes stays an invalid argument when the replacement would have few.
	many := leastTerm(impl.TmPair, boxed(399, zero), zero)
	for _, path := range [][]int{nil, {0}, {1}} {
		got, ok := impl.ReplaceAt(many, path, zero)
		checkTerm(t, "ReplaceAt within 402 nodes", got, ok, "")
	}
}

// growing are redexes of each form that puts a term somewhere, each with a contraction of just so many nodes, from 203
// on.
func growing(nodes int) map[string]impl.Term {
	// Each of the three or four copies has 49 nodes more than the variable in whose place it stands.
	arg := boxed(49, variableTerm(7))
	body := copies(nodes-3*49, 3, 0)
	half := copies(nodes-4*49, 4, 0, 1)
	return map[string]impl.Term{
		"app":         leastTerm(impl.TmApp, leastTerm(impl.TmFun, body), arg),
		"split":       leastTerm(impl.TmSplit, leastTerm(impl.TmPair, arg, arg), half),
		"split left":  leastTerm(impl.TmSplit, leastTerm(impl.TmPair, arg, variableTerm(3)), copies(nodes-3*49, 3, 1)),
		"split right": leastTerm(impl.TmSplit, leastTerm(impl.TmPair, variableTerm(3), arg), body),
		"case left":   leastTerm(impl.TmCase, leastTerm(impl.TmLeft, arg), body, numberTerm(0)),
		"case right":  leastTerm(impl.TmCase, leastTerm(impl.TmRight, arg), numberTerm(0), body),
		"open":        leastTerm(impl.TmOpen, leastTerm(impl.TmBox, arg), body),
	}
}

func TestContractUpToMostNodes(t *testing.T) {
	for nodes := 395; nodes <= 405; nodes++ {
		for name, x := range growing(nodes) {
			y := slowContractAt(x, nil)
			if sizeOf(y) != nodes || !impl.IsRedex(x) {
				t.Fatalf("%s of %d nodes is no such redex", name, nodes)
			}
			want := ""
			if nodes <= 400 {
				want = textOf(y)
			}
			got, ok := impl.Contract(x)
			checkTerm(t, "Contract of "+name, got, ok, want)
			got, ok = impl.ContractAt(x, nil)
			checkTerm(t, "ContractAt the root of "+name, got, ok, want)
			got, ok = impl.StepTerm(x)
			checkTerm(t, "StepTerm of "+name, got, ok, want)
			got, steps, ok := impl.NormalForm(x, 1)
			checkTerm(t, "NormalForm of "+name, got, ok, want)
			if steps != min(len(want), 1) {
				t.Errorf("NormalForm of %s leads to %d nodes in %d steps", name, nodes, steps)
			}
		}
	}
}

// TestContractAtUpToMostNodes has contractions that are small enough, in terms that they make too large.
func TestContractAtUpToMostNodes(t *testing.T) {
	for around := 0; around <= 60; around++ {
		for name, redex := range growing(350) {
			x := boxed(around, redex)
			path := make([]int, around)
			want := ""
			if around <= 50 {
				want = textOf(slowContractAt(x, path))
			}
			got, ok := impl.ContractAt(x, path)
			checkTerm(t, "ContractAt a path to "+name, got, ok, want)
			got, ok = impl.StepTerm(x)
			checkTerm(t, "StepTerm of "+name, got, ok, want)
		}
	}
	// A redex that loses nodes may stand in a term of most nodes, and not in one with more.
	for _, more := range []int{0, 1} {
		x := boxed(397+more, leastTerm(impl.TmAdd, numberTerm(2), numberTerm(2)))
		want := [2]string{textOf(boxed(397, numberTerm(1)))}[more]
		got, ok := impl.ContractAt(x, make([]int, 397+more))
		checkTerm(t, "ContractAt the end of most nodes", got, ok, want)
		got, ok = impl.StepTerm(x)
		checkTerm(t, "StepTerm of most nodes", got, ok, want)
		got, _, ok = impl.NormalForm(x, 300)
		checkTerm(t, "NormalForm of most nodes", got, ok, want)
	}
	big := leastTerm(impl.TmApp, leastTerm(impl.TmFun, numberTerm(0)), boxed(397, numberTerm(0)))
	if impl.IsRedex(big) {
		t.Error("a redex of 401 nodes is one")
	}
	got, ok := impl.Contract(big)
	checkTerm(t, "Contract of 401 nodes", got, ok, "")
	got, ok = impl.Contract(leastTerm(impl.TmApp, leastTerm(impl.TmFun, numberTerm(0)), boxed(396, numberTerm(0))))
	checkTerm(t, "Contract of 400 nodes", got, ok, "0")
}

func TestStepTermTakesTheFirstRedex(t *testing.T) {
	const loop = "app(fun:0:n(app(x0,x0)),fun:0:n(app(x0,x0)))"
	for text, want := range map[string]string{
		"x0":                                              "",
		"fun:1:n(app(x0,1))":                              "",
		"pair(add(1,1),add(2,2))":                         "pair(2,add(2,2))",
		"pair(2,add(2,2))":                                "pair(2,1)",
		"if(0,add(1,1),add(2,2))":                         "add(1,1)",
		"if(add(1,1),add(1,1),add(2,2))":                  "if(2,add(1,1),add(2,2))",
		"app(fun:1:n(add(1,1)),add(2,2))":                 "add(1,1)",
		"app(x0,add(2,2))":                                "app(x0,1)",
		"app(fun:0:n(1)," + loop + ")":                    "1",
		loop:                                              loop,
		"pair(" + loop + ",add(1,1))":                     "pair(" + loop + ",add(1,1))",
		"pair(add(1,1)," + loop + ")":                     "pair(2," + loop + ")",
		"fun:1:n(split:1(pair(x0,x1),fun:1:n(x3)))":       "fun:1:n(fun:1:n(x1))",
		"fun:1:n(case:1(left:n(x8),add(x0,x9),x0))":       "fun:1:n(add(x8,x8))",
		"open:1(open:1(box:1(x3),box:1(x0)),x0)":          "open:1(box:1(x3),x0)",
		"split:1(x0,app(fun:1:n(add(x0,x1)),x3))":         "split:1(x0,add(x3,x0))",
		"case:1(x0,x1,app(fun:1:n(add(x1,x2)),add(1,1)))": "case:1(x0,x1,add(x0,x1))",
	} {
		got, ok := impl.StepTerm(parsed(t, text))
		checkTerm(t, "StepTerm of "+text, got, ok, want)
	}
}

// doublings is a term whose normal form is so many steps away: 2 to the power of times + 1, less 2.
func doublings(times int) string {
	return strings.Repeat("app(fun:2:n(add(x0,x0)),", times) + "1" + strings.Repeat(")", times)
}

func TestNormalForm(t *testing.T) {
	if impl.MaxContractions != 300 {
		t.Errorf("MaxContractions is %d", impl.MaxContractions)
	}
	const loop = "app(fun:0:n(app(x0,x0)),fun:0:n(app(x0,x0)))"
	const grows = "app(fun:0:n(app(app(x0,x0),x0)),fun:0:n(app(app(x0,x0),x0)))"
	steps300 := "pair(" + doublings(7) + ",pair(" + doublings(4) + ",pair(" + doublings(3) + "," + doublings(1) + ")))"
	for _, c := range []struct {
		text, want string
		steps      int
	}{
		{"x7", "x7", 0},
		{"fun:?:>?.nn(app(x0,box:?(x8)))", "fun:?:>?.nn(app(x0,box:?(x8)))", 0},
		{"add(1,1)", "2", 1},
		{"app(fun:2:n(add(x0,x0)),2)", "1", 2},
		{"app(fun:2:n(add(x0,x0)),add(1,1))", "1", 4},
		{"pair(add(1,1),add(2,2))", "pair(2,1)", 2},
		{"fun:1:n(app(fun:1:n(add(x0,x1)),add(1,1)))", "fun:1:n(add(2,x0))", 2},
		{"split:1(pair(add(1,1),x0),add(x1,x0))", "add(2,x0)", 2},
		{"case:1(right:n(1),0,add(x0,x0))", "2", 2},
		{"open:1(box:2(add(1,1)),add(x0,x0))", "1", 4},
		{"if(add(1,2),add(x0,1),2)", "add(x0,1)", 2},
		{"app(fun:0:n(1)," + loop + ")", "1", 1},
		{"app(fun:0:n(1)," + grows + ")", "1", 1},
		{"if(0,2," + loop + ")", "2", 1},
		{"app(app(fun:1:n(fun:1:n(app(x1,x0))),fun:1:n(add(x0,1))),x3)", "add(x3,1)", 3},
		{doublings(1), "2", 2},
		{doublings(2), "1", 6},
		{doublings(7), "2", 254},
		{steps300, "pair(2,pair(1,pair(2,2)))", 300},
		{"box:1(" + steps300 + ")", "box:1(pair(2,pair(1,pair(2,2))))", 300},
		{"pair(" + steps300 + ",add(1,1))", "", 0},
		{"pair(add(1,1)," + steps300 + ")", "", 0},
		{doublings(8), "", 0},
		{loop, "", 0},
		{"pair(" + loop + ",1)", "", 0},
		{"fun:1:n(" + loop + ")", "", 0},
		{grows, "", 0},
	} {
		x := parsed(t, c.text)
		for most := range 301 {
			if most > 3 && most < 297 && (most < c.steps-1 || most > c.steps+1) && most%50 > 0 {
				continue
			}
			want, steps := c.want, c.steps
			if most < c.steps {
				want, steps = "", 0
			}
			got, n, ok := impl.NormalForm(x, most)
			checkTerm(t, "NormalForm of "+c.text+" in "+strconv.Itoa(most), got, ok, want)
			if n != steps {
				t.Errorf("NormalForm of %s in %d takes %d steps", c.text, most, n)
			}
		}
		for _, most := range []int{-1 << 63, -2, -1, 301, 302, 1 << 32, 1<<63 - 1} {
			got, n, ok := impl.NormalForm(x, most)
			checkTerm(t, "NormalForm of "+c.text+" in "+strconv.Itoa(most), got, ok, "")
			if n != 0 {
				t.Errorf("NormalForm of %s in %d fails and returns %d", c.text, most, n)
			}
		}
	}
}

// TestNormalFormUpToMostNodes has terms of 400 nodes, and of one more, behind the first of two steps.
func TestNormalFormUpToMostNodes(t *testing.T) {
	for more, want := range []string{"1", ""} {
		body := leastTerm(impl.TmIf, numberTerm(0), numberTerm(1), boxed(more, copies(3, 2, 0)))
		x := leastTerm(impl.TmApp, leastTerm(impl.TmFun, body), boxed(197, variableTerm(7)))
		if n := sizeOf(slowContractAt(x, nil)); n != 400+more {
			t.Fatalf("the first step leads to %d nodes", n)
		}
		got, steps, ok := impl.NormalForm(x, 300)
		checkTerm(t, "NormalForm through most nodes", got, ok, want)
		if steps != 2*len(want) {
			t.Errorf("NormalForm through most nodes takes %d steps", steps)
		}
	}
}

func TestNormalFormOfMadeTerms(t *testing.T) {
	ended, failed := 0, 0
	for _, x := range madeRedexes(t, 300) {
		text, y, steps, ends := textOf(x), x, 0, true
		for {
			var first []int
			found := false
			for _, p := range placesOf(y) {
				if slowIsRedex(p.term) {
					first, found = p.path, true
					break
				}
			}
			if !found {
				break
			}
			y = slowContractAt(y, first)
			steps++
			if sizeOf(y) > 400 || steps > 300 {
				ends = false
				failed++
				break
			}
		}
		for _, most := range []int{0, 1, steps - 1, steps, steps + 1, 300} {
			want, n := "", 0
			if ends && most >= steps && most <= 300 {
				want, n = textOf(y), steps
				ended++
			}
			got, count, ok := impl.NormalForm(x, most)
			checkTerm(t, "NormalForm of "+text+" in "+strconv.Itoa(most), got, ok, want)
			if count != n {
				t.Errorf("NormalForm of %s in %d takes %d steps, not %d", text, most, count, n)
			}
			if ok && !impl.IsNormal(got) {
				t.Errorf("NormalForm of %s has redexes", text)
			}
		}
	}
	if ended < 300 {
		t.Errorf("only %d calls came to an end, and %d terms did not", ended, failed)
	}
}

// TestContractionsKeepTheType looks at terms that have a type: their contractions have it too, and need no more.
func TestContractionsKeepTheType(t *testing.T) {
	contracted := 0
	for _, name := range []string{"bound 2", "count 2", "level 2", "bound 1*level 1"} {
		s := systemOf(t, name)
		m := newTypedMaker(s)
		for range 1500 {
			ctx := m.context(4)
			x := m.make(ctx, m.typ(4), 12)
			ty, needs, ok := impl.TypeOf(s, ctx, x)
			if !ok {
				continue
			}
			for _, path := range impl.RedexesOf(x) {
				y, ok := impl.ContractAt(x, path)
				if sizeOf(x) < 40 && (!ok || !impl.Fits(s, ctx, needs, y, ty)) {
					t.Fatalf("%s: ContractAt %v of %s in %v is %s, which does not fit", name, path, textOf(x), ctx, textOf(y))
				}
				contracted++
			}
		}
	}
	if contracted < 1000 {
		t.Errorf("only %d terms were contracted", contracted)
	}
}

// failsFor reports which function does not return what it must for a term that is no written one.
func failsFor(x impl.Term) string {
	zero := numberTerm(0)
	wrong := ""
	fail := func(name string, got impl.Term, ok bool) {
		if ok || !isZeroTerm(got) {
			wrong = name
		}
	}
	if impl.IsRedex(x) {
		wrong = "IsRedex"
	}
	if impl.IsNormal(x) {
		wrong = "IsNormal"
	}
	if impl.RedexesOf(x) != nil {
		wrong = "RedexesOf"
	}
	got, ok := impl.Contract(x)
	fail("Contract", got, ok)
	got, ok = impl.StepTerm(x)
	fail("StepTerm", got, ok)
	for _, path := range [][]int{nil, {}, {0}, {1}, {0, 0}, {-1}} {
		got, ok = impl.TermAt(x, path)
		fail("TermAt", got, ok)
		got, ok = impl.ReplaceAt(x, path, zero)
		fail("ReplaceAt", got, ok)
		got, ok = impl.ContractAt(x, path)
		fail("ContractAt", got, ok)
	}
	for _, most := range []int{-1, 0, 1, 300, 301} {
		got, n, ok := impl.NormalForm(x, most)
		fail("NormalForm", got, ok)
		if n != 0 {
			wrong = "NormalForm"
		}
	}
	return wrong
}

func TestContractionOfBadTerms(t *testing.T) {
	zero, redex := numberTerm(0), leastTerm(impl.TmAdd, numberTerm(1), numberTerm(1))
	for reason, bad := range badTerms() {
		for where, x := range map[string]impl.Term{
			"itself":       bad,
			"in a box":     leastTerm(impl.TmBox, bad),
			"beside":       leastTerm(impl.TmPair, bad, redex),
			"behind":       leastTerm(impl.TmPair, redex, bad),
			"dropped":      leastTerm(impl.TmIf, zero, redex, bad),
			"taken":        leastTerm(impl.TmIf, zero, bad, redex),
			"the argument": leastTerm(impl.TmApp, leastTerm(impl.TmFun, zero), bad),
			"in a box put": leastTerm(impl.TmOpen, leastTerm(impl.TmBox, bad), variableTerm(0)),
		} {
			if wrong := failsFor(x); wrong != "" {
				t.Errorf("%s, %s: %s is wrong", reason, where, wrong)
			}
		}
		for _, c := range []struct {
			t    impl.Term
			path []int
		}{
			{zero, nil},
			{leastTerm(impl.TmBox, zero), []int{0}},
			{leastTerm(impl.TmPair, redex, zero), []int{0, 1}},
		} {
			if got, ok := impl.ReplaceAt(c.t, c.path, bad); ok || !isZeroTerm(got) {
				t.Errorf("%s: ReplaceAt %v with it is %s", reason, c.path, textOf(got))
			}
		}
	}
}

func TestContractionAtBadPaths(t *testing.T) {
	redex := leastTerm(impl.TmAdd, numberTerm(1), numberTerm(1))
	for _, text := range []string{"x0", "1", "add(1,1)", "pair(add(1,1),add(2,2))", "if(0,if(0,1,2),add(1,2))", "fun:1:n(add(1,1))"} {
		x := parsed(t, text)
		for reason, path := range badPaths() {
			got, ok := impl.TermAt(x, path)
			checkTerm(t, "TermAt "+reason+" of "+text, got, ok, "")
			got, ok = impl.ReplaceAt(x, path, redex)
			checkTerm(t, "ReplaceAt "+reason+" of "+text, got, ok, "")
			got, ok = impl.ContractAt(x, path)
			checkTerm(t, "ContractAt "+reason+" of "+text, got, ok, "")
		}
	}
}

func TestFunctionsOfContractionChangeNoArgument(t *testing.T) {
	empty := impl.Term{Op: impl.TmNum, Type: make([]int, 0, 3), Kids: make([]impl.Term, 0, 3)}
	for i, x := range madeRedexes(t, 150) {
		u := leastTerm(impl.TmPair, leastTerm(impl.TmLeft, variableTerm(i%8)), variableTerm(0))
		if i%10 == 0 {
			u = empty
		}
		for _, p := range placesOf(x) {
			path := wideList(p.path)
			for name, call := range map[string]func(l []impl.Term) (impl.Term, bool){
				"TermAt":     func(l []impl.Term) (impl.Term, bool) { return impl.TermAt(l[0], path) },
				"ReplaceAt":  func(l []impl.Term) (impl.Term, bool) { return impl.ReplaceAt(l[0], path, l[1]) },
				"ContractAt": func(l []impl.Term) (impl.Term, bool) { return impl.ContractAt(l[0], path) },
			} {
				keepsTerms(t, name, func(l []impl.Term) []impl.Term {
					got, _ := call(l)
					return []impl.Term{got}
				}, x, u)
			}
			if !keptList(path, p.path) {
				t.Fatalf("a function changes the path %v", p.path)
			}
		}
		keepsTerms(t, "a function of one term", func(l []impl.Term) []impl.Term {
			impl.IsRedex(l[0])
			impl.IsNormal(l[0])
			impl.RedexesOf(l[0])
			a, _ := impl.Contract(l[0])
			b, _ := impl.StepTerm(l[0])
			c, _, _ := impl.NormalForm(l[0], 300)
			return []impl.Term{a, b, c}
		}, x)
		if !allDistinct(impl.RedexesOf(x)) {
			t.Errorf("the paths to the redexes of %s share memory", textOf(x))
		}
	}
	keepsTerms(t, "NormalForm in no steps", func(l []impl.Term) []impl.Term {
		got, _, _ := impl.NormalForm(l[0], 0)
		return []impl.Term{got}
	}, parsed(t, "fun:1:*nn(box:1(left:!1.n(x0)))"))
}

// TestContractionOfTermsThatShareMemory hands over terms whose parts share memory, and a term as its own replacement.
func TestContractionOfTermsThatShareMemory(t *testing.T) {
	fun := leastTerm(impl.TmFun, leastTerm(impl.TmLeft, leastTerm(impl.TmPair, variableTerm(0), variableTerm(0))))
	pair := leastTerm(impl.TmPair, fun, fun)
	text := textOf(leastTerm(impl.TmApp, fun, pair))
	x := leastTerm(impl.TmApp, fun, pair)
	for name, call := range map[string]func() (impl.Term, bool){
		"TermAt":       func() (impl.Term, bool) { return impl.TermAt(x, []int{1}) },
		"ReplaceAt":    func() (impl.Term, bool) { return impl.ReplaceAt(x, []int{1, 0}, x) },
		"ReplaceAt it": func() (impl.Term, bool) { return impl.ReplaceAt(x, nil, x) },
		"Contract":     func() (impl.Term, bool) { return impl.Contract(x) },
		"ContractAt":   func() (impl.Term, bool) { return impl.ContractAt(leastTerm(impl.TmPair, x, x), []int{1}) },
		"StepTerm":     func() (impl.Term, bool) { return impl.StepTerm(leastTerm(impl.TmPair, x, x)) },
		"NormalForm": func() (impl.Term, bool) {
			got, _, ok := impl.NormalForm(leastTerm(impl.TmPair, x, x), 300)
			return got, ok
		},
	} {
		got, ok := call()
		if !ok {
			t.Errorf("%s fails for a term whose parts share memory", name)
		}
		next := scribble(&got, 1000)
		if scribbled(got, 1000) != next || textOf(x) != text {
			t.Errorf("a result of %s shares memory", name)
		}
	}
}
