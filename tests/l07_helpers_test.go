package tests

import (
	"maps"
	"slices"
	"strconv"
	"strings"
	"testing"

	"loop.example/g03111/impl"
)

// viewOf reads grades that are written with spaces between them.
func viewOf(t *testing.T, text string) []int {
	t.Helper()
	var view []int
	for _, part := range strings.Fields(text) {
		g, err := strconv.Atoi(part)
		if err != nil {
			t.Fatal(err)
		}
		view = append(view, g)
	}
	return view
}

// slowAlike takes values of one data type.
func slowAlike(view []int, v, w impl.Term) bool {
	if v.Op != w.Op {
		return false
	}
	switch v.Op {
	case impl.TmNum:
		return v.N == w.N
	case impl.TmPair:
		return slowAlike(view, v.Kids[0], w.Kids[0]) && slowAlike(view, v.Kids[1], w.Kids[1])
	case impl.TmBox:
		return !slices.Contains(view, v.N) || slowAlike(view, v.Kids[0], w.Kids[0])
	}
	return slowAlike(view, v.Kids[0], w.Kids[0])
}

// slowSeen takes a data type, and counts its values for the view.
func slowSeen(view []int, ty []int) int {
	switch {
	case ty[0] == 0:
		return 3
	case ty[0] >= 19 && slices.Contains(view, ty[0]-19):
		return slowSeen(view, ty[1:])
	case ty[0] >= 19:
		return 1
	}
	left, right := slowParts(ty)
	if ty[0] == 1 {
		return slowSeen(view, left) * slowSeen(view, right)
	}
	return slowSeen(view, left) + slowSeen(view, right)
}

// slowErasedValue returns the text of what the view leaves of a value.
func slowErasedValue(view []int, v impl.Term) string {
	switch v.Op {
	case impl.TmNum:
		return strconv.Itoa(v.N)
	case impl.TmPair:
		return "pair(" + slowErasedValue(view, v.Kids[0]) + "," + slowErasedValue(view, v.Kids[1]) + ")"
	case impl.TmLeft:
		return "left:" + typeText(v.Type) + "(" + slowErasedValue(view, v.Kids[0]) + ")"
	case impl.TmRight:
		return "right:" + typeText(v.Type) + "(" + slowErasedValue(view, v.Kids[0]) + ")"
	}
	content := slowErasedValue(view, v.Kids[0])
	if !slices.Contains(view, v.N) {
		content = slowDefault(slowTypeOfValue(v.Kids[0]))
	}
	return "box:" + strconv.Itoa(v.N) + "(" + content + ")"
}

// slowErasedText takes a term that has a type in the context, and returns the text of what the view leaves of it,
// however long that is. It finds the type of each kid anew.
func slowErasedText(s impl.System, view []int, ctx [][]int, t impl.Term) string {
	typeOf := func(x impl.Term) []int { return slowFind(s, ctx, x).ty }
	var kids []string
	for k, kid := range t.Kids {
		seen := true
		switch {
		case t.Op == impl.TmBox:
			seen = slices.Contains(view, t.N)
		case t.Op == impl.TmApp && k == 1:
			seen = slices.Contains(view, typeOf(t.Kids[0])[0]-3)
		}
		if seen {
			kids = append(kids, slowErasedText(s, view, slices.Concat(slowAdded(s, ctx, t, k), ctx), kid))
		} else {
			kids = append(kids, slowDefault(typeOf(kid)))
		}
	}
	// A term with other kids of the same number has the same text around them.
	bare := t
	bare.Kids = slices.Repeat([]impl.Term{{Op: impl.TmVar, N: 1000}}, len(t.Kids))
	text := textOf(bare)
	for _, kid := range kids {
		text = strings.Replace(text, "x1000", kid, 1)
	}
	return text
}

// nodesOfText counts the nodes of a term's text: each has a word, an x or a digit ahead of which no part of another
// word, type or number stands.
func nodesOfText(text string) int {
	nodes := 0
	for i, c := range text {
		starts := i == 0 || text[i-1] == '(' || text[i-1] == ','
		if starts && (c >= 'a' && c <= 'z' || c >= '0' && c <= '9') {
			nodes++
		}
	}
	return nodes
}

// slowErasedTerm takes a term that has a type in the context.
func slowErasedTerm(s impl.System, view []int, ctx [][]int, t impl.Term) string {
	text := slowErasedText(s, view, ctx, t)
	if nodesOfText(text) > 400 {
		return "fails"
	}
	return text
}

// erasedValue asks the program.
func erasedValue(t *testing.T, s impl.System, view []int, ty []int, v impl.Term) string {
	t.Helper()
	left, ok := impl.EraseValue(s, view, ty, v)
	if ok {
		return textOf(left)
	}
	if !isZeroTerm(left) {
		t.Errorf("EraseValue fails with %v", left)
	}
	return "fails"
}

func erasedTerm(t *testing.T, s impl.System, view []int, ctx [][]int, x impl.Term) string {
	t.Helper()
	left, ok := impl.EraseTerm(s, view, ctx, x)
	if ok {
		return textOf(left)
	}
	if !isZeroTerm(left) {
		t.Errorf("EraseTerm fails with %v", left)
	}
	return "fails"
}

// seenVariables writes down what SeenVariables returns.
func seenVariables(s impl.System, view []int, ctx [][]int, x impl.Term) string {
	return strings.Join(digitsOf(impl.SeenVariables(s, view, ctx, x)), " ")
}

// slowSeenVariables takes a term that has a type in the context.
func slowSeenVariables(s impl.System, view []int, ctx [][]int, x impl.Term) string {
	var seen []int
	for i, need := range slowFind(s, ctx, x).needs {
		if slices.Contains(view, need) {
			seen = append(seen, i)
		}
	}
	return strings.Join(digitsOf(seen), " ")
}

// seeing is a system with one of its views.
type seeing struct {
	name string
	s    impl.System
	view []int
}

func viewedSystems() []string {
	systems := slices.Sorted(maps.Keys(goodSystems()))
	return append(systems, "bound 2*level 2", "count 2*bound 1", "level 2*level 2", "level 15", "bound 14", "count 14")
}

// allViews are systems of all kinds, each one with each of its views.
func allViews(t *testing.T) []seeing {
	t.Helper()
	var all []seeing
	for _, name := range viewedSystems() {
		s := systemOf(t, name)
		for _, v := range slowViews(s) {
			all = append(all, seeing{name: name + " for " + strings.Join(digitsOf(v), " "), s: s, view: v})
		}
	}
	return all
}

func slowViews(s impl.System) [][]int {
	var views [][]int
	for _, v := range subsets(s.Size) {
		if slowIsView(s, v) {
			views = append(views, v)
		}
	}
	return views
}

// badViews are no views of the system, which is named; the reason is the key.
func badViews() map[string]struct {
	system string
	view   []int
} {
	type bad = struct {
		system string
		view   []int
	}
	all := map[string]bad{
		"nil":                      {"bound 2", nil},
		"empty":                    {"bound 2", []int{}},
		"not ascending":            {"bound 2", []int{1, 3, 2}},
		"descending":               {"bound 2", []int{3, 2, 1}},
		"1 twice":                  {"bound 2", []int{1, 1, 2, 3}},
		"3 twice":                  {"bound 2", []int{1, 2, 3, 3}},
		"with 0":                   {"bound 2", []int{0, 1, 2, 3}},
		"with 0 at the end":        {"bound 2", []int{1, 2, 3, 0}},
		"0 alone":                  {"level 1", []int{0}},
		"0 and 1":                  {"level 1", []int{0, 1}},
		"without 1":                {"bound 2", []int{2, 3}},
		"without 1, levels":        {"level 2", []int{2}},
		"grade 4":                  {"bound 2", []int{1, 2, 3, 4}},
		"grade 33":                 {"bound 2", []int{1, 2, 33}},
		"grade 35":                 {"bound 2", []int{1, 2, 35}},
		"grade 65":                 {"level 2", []int{65}},
		"grade 66":                 {"level 2", []int{1, 66}},
		"grade -1":                 {"bound 2", []int{-1, 1, 2, 3}},
		"grade -1 at the end":      {"bound 2", []int{1, 2, 3, -1}},
		"greatest":                 {"bound 2", []int{1, 2, 3, 1<<63 - 1}},
		"least":                    {"bound 2", []int{-1 << 63, 1, 2, 3}},
		"a million":                {"bound 2", make([]int, 1000000)},
		"1, and a million of 2":    {"level 2", append([]int{1}, slices.Repeat([]int{2}, 1000000)...)},
		"sum 1 + 1":                {"bound 2", []int{1, 3}},
		"sum and order":            {"bound 2", []int{1}},
		"above 2":                  {"bound 2", []int{1, 2}},
		"above 1, counts":          {"count 1", []int{1}},
		"sums alone":               {"sumsLost", []int{1}},
		"products alone":           {"factorsLost", []int{1, 2}},
		"products alone, 2 * 2":    {"fading", []int{1, 2}},
		"order alone":              {"ordersLost", []int{1}},
		"1 below 0":                {"upsideDown", []int{1}},
		"a view of another system": {"level 1", []int{1, 2}},
		"levels but for one":       {"level 3", []int{1, 3}},
	}
	return all
}

// ofSize is the text of a term of the type n with just so many nodes, any number but 2.
func ofSize(nodes int) string {
	switch {
	case nodes == 1:
		return "1"
	case nodes%2 == 0:
		return "if(1,1," + ofSize(nodes-3) + ")"
	}
	return "add(1," + ofSize(nodes-2) + ")"
}

// growingTerm is the text of a term of the type n with nodes of its own, and with x0, whose type has 37 codes, as an
// argument of the grade 0 so many times; each of them takes 5 nodes more, and 41 once the argument is replaced.
func growingTerm(times int, nodes int) string {
	return strings.Repeat("add(app(fun:0:"+power(19)+"(1),x0),", times) + ofSize(nodes) + strings.Repeat(")", times)
}
