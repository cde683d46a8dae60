package tests

import (
	"math/rand"
	"slices"
	"strconv"
	"strings"
	"testing"

	"loop.example/g03111/impl"
)

// typeSample is a written type with all that the tests want to know of it, found while it was put together.
type typeSample struct {
	ty       []int
	text     string
	parts    [][]int
	greatest int
	open     bool
	arrow    bool
}

// typesOf returns all written types of just so many codes.
func typesOf(codes int) []typeSample {
	if codes == 1 {
		return []typeSample{{ty: []int{0}, text: "n"}}
	}
	var all []typeSample
	if codes < 1 {
		return all
	}
	for _, x := range typesOf(codes - 1) {
		all = append(all, over(36, "!?.", true, false, 0, x))
		for g := 0; g < 16; g++ {
			all = append(all, over(19+g, "!"+strconv.Itoa(g)+".", false, false, g, x))
		}
	}
	for left := 1; left < codes-1; left++ {
		for _, x := range typesOf(left) {
			for _, y := range typesOf(codes - 1 - left) {
				all = append(all, over(1, "*", false, false, 0, x, y), over(2, "+", false, false, 0, x, y))
				all = append(all, over(35, ">?.", true, true, 0, x, y))
				for g := 0; g < 16; g++ {
					all = append(all, over(3+g, ">"+strconv.Itoa(g)+".", false, true, g, x, y))
				}
			}
		}
	}
	return all
}

func over(code int, mark string, open, arrow bool, g int, parts ...typeSample) typeSample {
	x := typeSample{ty: []int{code}, text: mark, open: open, arrow: arrow, greatest: g}
	for _, p := range parts {
		x.ty = append(x.ty, p.ty...)
		x.text += p.text
		x.parts = append(x.parts, slices.Clone(p.ty))
		x.greatest = max(x.greatest, p.greatest)
		x.open = x.open || p.open
		x.arrow = x.arrow || p.arrow
	}
	return x
}

// smallTypes are all written types of at most four codes.
func smallTypes() []typeSample {
	return slices.Concat(typesOf(1), typesOf(2), typesOf(3), typesOf(4))
}

// longTypes are types of so many codes (an even number from 6 on), each with codes of one kind most of all.
func longTypes(codes int) map[string][]int {
	half := codes/2 - 1
	return map[string][]int{
		strings.Repeat("!1.", codes-1) + "n":                             append(slices.Repeat([]int{20}, codes-1), 0),
		strings.Repeat("!?.", codes-1) + "n":                             append(slices.Repeat([]int{36}, codes-1), 0),
		"!0." + strings.Repeat("*n", half) + "n":                         append(append([]int{19}, slices.Repeat([]int{1, 0}, half)...), 0),
		strings.Repeat("+", half) + "!1.n" + strings.Repeat("n", half):   append(append(slices.Repeat([]int{2}, half), 20, 0), slices.Repeat([]int{0}, half)...),
		strings.Repeat(">2.", half) + strings.Repeat("n", half) + "!2.n": append(slices.Concat(slices.Repeat([]int{5}, half), slices.Repeat([]int{0}, half)), 21, 0),
	}
}

// row is a row of the table of terms: what is added for each kid, and what else the term has.
type row struct {
	word   string
	adds   []int
	graded bool
	typed  bool
}

var rows = map[int]row{
	impl.TmVar:   {},
	impl.TmNum:   {},
	impl.TmAdd:   {word: "add", adds: []int{0, 0}},
	impl.TmIf:    {word: "if", adds: []int{0, 0, 0}},
	impl.TmPair:  {word: "pair", adds: []int{0, 0}},
	impl.TmSplit: {word: "split", adds: []int{0, 2}, graded: true},
	impl.TmLeft:  {word: "left", adds: []int{0}, typed: true},
	impl.TmRight: {word: "right", adds: []int{0}, typed: true},
	impl.TmCase:  {word: "case", adds: []int{0, 1, 1}, graded: true},
	impl.TmFun:   {word: "fun", adds: []int{1}, graded: true, typed: true},
	impl.TmApp:   {word: "app", adds: []int{0, 0}},
	impl.TmBox:   {word: "box", adds: []int{0}, graded: true},
	impl.TmOpen:  {word: "open", adds: []int{0, 1}, graded: true},
}

// parsed returns the term with a text that must be one.
func parsed(t *testing.T, text string) impl.Term {
	t.Helper()
	x, ok := impl.ParseTerm(text)
	if !ok {
		t.Fatalf("ParseTerm(%q) fails", text)
	}
	return x
}

func variableTerm(i int) impl.Term { return impl.Term{Op: impl.TmVar, N: i} }

func numberTerm(n int) impl.Term { return impl.Term{Op: impl.TmNum, N: n} }

// leastTerm is a term of the form op with these kids, the grade 1 and the type n.
func leastTerm(op int, kids ...impl.Term) impl.Term {
	t := impl.Term{Op: op, Kids: kids}
	if rows[op].graded {
		t.N = 1
	}
	if rows[op].typed {
		t.Type = []int{0}
	}
	return t
}

// termMaker makes terms with grades less than size, and with each of them its text.
type termMaker struct {
	r     *rand.Rand
	types []typeSample
	open  bool
	size  int
}

func newTermMaker(size int, open bool) *termMaker {
	m := &termMaker{r: rand.New(rand.NewSource(2)), open: open, size: size}
	for _, x := range slices.Concat(typesOf(1), typesOf(2), typesOf(3)) {
		if (open || !x.open) && x.greatest < size {
			m.types = append(m.types, x)
		}
	}
	return m
}

func (m *termMaker) grade() (int, string) {
	if m.open && m.r.Intn(3) == 0 {
		return -1, "?"
	}
	g := m.r.Intn(m.size)
	return g, strconv.Itoa(g)
}

// make returns a term of just so many nodes, with so many variables.
func (m *termMaker) make(nodes int, variables int) (impl.Term, string) {
	if nodes == 1 {
		if i := m.r.Intn(variables + 1); i < variables {
			return variableTerm(i), "x" + strconv.Itoa(i)
		}
		n := m.r.Intn(3)
		return numberTerm(n), strconv.Itoa(n)
	}
	op := m.op()
	for len(rows[op].adds) > nodes-1 {
		op = m.op()
	}
	t, text := impl.Term{Op: op}, rows[op].word
	if rows[op].graded {
		g, digits := m.grade()
		t.N, text = g, text+":"+digits
	}
	if rows[op].typed {
		x := m.types[m.r.Intn(len(m.types))]
		t.Type, text = slices.Clone(x.ty), text+":"+x.text
	}
	left := nodes - 1
	var texts []string
	for k, adds := range rows[op].adds {
		others := len(rows[op].adds) - 1 - k
		n := left
		if others > 0 {
			n = 1 + m.r.Intn(left-others)
		}
		left -= n
		kid, s := m.make(n, variables+adds)
		t.Kids = append(t.Kids, kid)
		texts = append(texts, s)
	}
	return t, text + "(" + strings.Join(texts, ",") + ")"
}

func (m *termMaker) op() int { return impl.TmAdd + m.r.Intn(impl.TmOpen-impl.TmAdd+1) }

// named writes a term down with the names of the root's variables, and each added one as it stands there.
func named(t impl.Term, added int, names []string) string {
	switch {
	case t.Op == impl.TmVar && t.N < added:
		return "#" + strconv.Itoa(t.N)
	case t.Op == impl.TmVar:
		return names[t.N-added]
	case t.Op == impl.TmNum:
		return strconv.Itoa(t.N)
	}
	text := rows[t.Op].word
	if rows[t.Op].graded {
		text += ":" + strconv.Itoa(t.N)
	}
	for _, code := range t.Type {
		text += "." + strconv.Itoa(code)
	}
	for k, kid := range t.Kids {
		text += "(" + named(kid, added+rows[t.Op].adds[k], names) + ")"
	}
	return text
}

// names are names for n variables, which differ from all that else stands in what named returns.
func names(n int) []string { return strings.Split("ABCDEFGHIJKLMNOPQRSTUVWXYZ"[:n], "") }

// textOf writes a written term down as the table of terms has it.
func textOf(t impl.Term) string {
	switch t.Op {
	case impl.TmVar:
		return "x" + strconv.Itoa(t.N)
	case impl.TmNum:
		return strconv.Itoa(t.N)
	}
	text := rows[t.Op].word
	if rows[t.Op].graded {
		text += strings.ReplaceAll(":"+strconv.Itoa(t.N), "-1", "?")
	}
	if rows[t.Op].typed {
		text += ":" + impl.FormatType(t.Type)
	}
	var kids []string
	for _, kid := range t.Kids {
		kids = append(kids, textOf(kid))
	}
	return text + "(" + strings.Join(kids, ",") + ")"
}

// slowIsTerm takes a term with fewer nodes than the limit.
func slowIsTerm(t impl.Term, size int, open bool, variables int) bool {
	isGrade := func(g int) bool { return g >= 0 && g < size || open && g == -1 }
	r, known := rows[t.Op]
	if !known || len(t.Kids) != len(r.adds) {
		return false
	}
	if r.typed {
		if rest, ok := slowCutType(t.Type, size, open); !ok || len(rest) > 0 || len(t.Type) > 40 {
			return false
		}
	} else if len(t.Type) > 0 {
		return false
	}
	switch {
	case t.Op == impl.TmVar && (t.N < 0 || t.N >= variables):
		return false
	case t.Op == impl.TmNum && (t.N < 0 || t.N > 2):
		return false
	case t.Op > impl.TmNum && r.graded && !isGrade(t.N):
		return false
	case t.Op > impl.TmNum && !r.graded && t.N != 0:
		return false
	}
	for k, kid := range t.Kids {
		if !slowIsTerm(kid, size, open, variables+r.adds[k]) {
			return false
		}
	}
	return true
}

// slowCutType returns what stands behind the type that the list begins with.
func slowCutType(ty []int, size int, open bool) ([]int, bool) {
	if len(ty) == 0 {
		return nil, false
	}
	code, rest, ok := ty[0], ty[1:], true
	switch {
	case code == 0:
		return rest, true
	case code == 36 && open || code >= 19 && code < 19+size:
		return slowCutType(rest, size, open)
	case code == 1 || code == 2 || code == 35 && open || code >= 3 && code < 3+size:
		if rest, ok = slowCutType(rest, size, open); ok {
			return slowCutType(rest, size, open)
		}
	}
	return nil, false
}

// towers are terms of so many nodes (at least 4), each with one way to nest most of all.
func towers(nodes int) map[string]impl.Term {
	all := map[string]impl.Term{}
	for op, r := range rows {
		kids := len(r.adds)
		if kids == 0 {
			continue
		}
		for at := 0; at < kids; at++ {
			t, n := numberTerm(1), 1
			for ; n+kids <= nodes; n += kids {
				l := slices.Repeat([]impl.Term{numberTerm(0)}, kids)
				l[at] = t
				t = leastTerm(op, l...)
			}
			for ; n < nodes; n++ {
				t = leastTerm(impl.TmBox, t)
			}
			all[r.word+" "+strconv.Itoa(at)] = t
		}
	}
	return all
}

// doubled is a term of 2 to the power of times, less one, nodes, in which all kids of one depth share their memory.
func doubled(times int) impl.Term {
	t := numberTerm(0)
	for i := 1; i < times; i++ {
		t = leastTerm(impl.TmPair, t, t)
	}
	return t
}

// endless is a term that is its own kid.
func endless() impl.Term {
	kids := make([]impl.Term, 1)
	kids[0] = leastTerm(impl.TmBox)
	kids[0].Kids = kids
	return kids[0]
}

// badTerms are no written terms, for any variables; the reason is the key.
func badTerms() map[string]impl.Term {
	zero := numberTerm(0)
	all := map[string]impl.Term{
		"op negative":       {Op: -1},
		"op 13":             {Op: 13},
		"op least":          {Op: -1 << 63},
		"op greatest":       {Op: 1<<63 - 1},
		"variable negative": {Op: impl.TmVar, N: -1},
		"variable 8":        {Op: impl.TmVar, N: 8},
		"variable greatest": {Op: impl.TmVar, N: 1<<63 - 1},
		"variable least":    {Op: impl.TmVar, N: -1 << 63},
		"number negative":   {Op: impl.TmNum, N: -1},
		"number 3":          {Op: impl.TmNum, N: 3},
		"number greatest":   {Op: impl.TmNum, N: 1<<63 - 1},
		"too many nodes":    doubled(10),
		"2^60 nodes":        doubled(60),
		"endless":           endless(),
	}
	for op, r := range rows {
		name := "op " + strconv.Itoa(op)
		good := leastTerm(op, slices.Repeat([]impl.Term{zero}, len(r.adds))...)
		change := func(what string, f func(t *impl.Term)) {
			t := copyOfTerm(good)
			f(&t)
			all[name+" "+what] = t
		}
		change("one more kid", func(t *impl.Term) { t.Kids = append(t.Kids, zero) })
		change("many kids", func(t *impl.Term) { t.Kids = slices.Repeat([]impl.Term{zero}, 500) })
		if len(r.adds) > 0 {
			change("no kids", func(t *impl.Term) { t.Kids = nil })
			change("one kid less", func(t *impl.Term) { t.Kids = t.Kids[1:] })
		}
		for k := range r.adds {
			change("kid "+strconv.Itoa(k)+" none", func(t *impl.Term) { t.Kids[k] = impl.Term{Op: -1} })
		}
		if r.graded {
			for _, g := range []int{-1 << 63, -2, 16, 17, 1 << 32, 1<<63 - 1} {
				change("grade "+strconv.Itoa(g), func(t *impl.Term) { t.N = g })
			}
		} else if op > impl.TmNum {
			for _, n := range []int{-1 << 63, -1, 1, 2, 1<<63 - 1} {
				change("N "+strconv.Itoa(n), func(t *impl.Term) { t.N = n })
			}
		}
		if r.typed {
			for what, ty := range badTypes() {
				change("type "+what, func(t *impl.Term) { t.Type = ty })
			}
		} else {
			change("type n", func(t *impl.Term) { t.Type = []int{0} })
			change("type -1", func(t *impl.Term) { t.Type = []int{-1} })
		}
	}
	return all
}

// badTypes are no written types; the reason is the key.
func badTypes() map[string][]int {
	all := map[string][]int{
		"empty":          {},
		"nil":            nil,
		"short pair":     {1, 0},
		"short arrow":    {4, 0},
		"short box":      {20},
		"short at 40":    slices.Repeat([]int{20}, 40),
		"more behind":    {0, 0},
		"pair and more":  {1, 0, 0, 0},
		"unknown -1":     {-1},
		"unknown 37":     {37},
		"unknown 37 n":   {37, 0},
		"unknown part":   {1, 0, 37},
		"unknown more":   {0, 37},
		"unknown 37 n n": {37, 0, 0},
		"unknown 38 n":   {38, 0},
		"unknown 39 n n": {39, 0, 0},
		"unknown 40 n":   {40, 0},
		"unknown 67 n n": {67, 0, 0},
		"unknown 68 n":   {68, 0},
		"greatest n n":   {1<<63 - 1, 0, 0},
		"greatest":       {1<<63 - 1},
		"least":          {-1 << 63},
		"least, n":       {-1 << 63, 0},
		"a million":      make([]int, 1000000),
	}
	for text, ty := range longTypes(42) {
		all["42 codes: "+text] = ty
	}
	all["41 codes: boxes"] = append(slices.Repeat([]int{20}, 40), 0)
	all["41 codes: pairs"] = append(slices.Repeat([]int{1, 0}, 20), 0)
	all["41 codes: arrows"] = append(slices.Repeat([]int{35}, 20), make([]int, 21)...)
	return all
}

// copyOfTerm copies a finite term, with spare room in each slice that later reveals a write.
func copyOfTerm(t impl.Term) impl.Term {
	c := impl.Term{Op: t.Op, N: t.N}
	if t.Type != nil {
		c.Type = append(slices.Clone(t.Type), -9)[:len(t.Type)]
	}
	if t.Kids != nil {
		c.Kids = make([]impl.Term, len(t.Kids), len(t.Kids)+1)
		c.Kids[:len(t.Kids)+1][len(t.Kids)].Op = -9
	}
	for k, kid := range t.Kids {
		c.Kids[k] = copyOfTerm(kid)
	}
	return c
}

func equalTerms(a, b impl.Term) bool {
	if a.Op != b.Op || a.N != b.N || len(a.Type) != len(b.Type) || len(a.Kids) != len(b.Kids) {
		return false
	}
	for i := range a.Type {
		if a.Type[i] != b.Type[i] {
			return false
		}
	}
	for k := range a.Kids {
		if !equalTerms(a.Kids[k], b.Kids[k]) {
			return false
		}
	}
	return true
}

// isZeroTerm reports whether t is what a function returns that fails.
func isZeroTerm(t impl.Term) bool {
	return t.Op == 0 && t.N == 0 && len(t.Type) == 0 && len(t.Kids) == 0
}

// spareKept reports whether the spare room that copyOfTerm gave to c is as it was.
func spareKept(c impl.Term) bool {
	if c.Type != nil && c.Type[:len(c.Type)+1][len(c.Type)] != -9 {
		return false
	}
	if c.Kids != nil && c.Kids[:len(c.Kids)+1][len(c.Kids)].Op != -9 {
		return false
	}
	for _, kid := range c.Kids {
		if !spareKept(kid) {
			return false
		}
	}
	return true
}

// keepsTerms fails the test if the call changes one of the terms, or what it returns shares memory with them or
// within itself.
func keepsTerms(t *testing.T, name string, call func(l []impl.Term) []impl.Term, terms ...impl.Term) {
	t.Helper()
	wide := make([]impl.Term, len(terms))
	for i, x := range terms {
		wide[i] = copyOfTerm(x)
	}
	results := call(wide)
	before := make([]impl.Term, len(results))
	for i, x := range results {
		before[i] = copyOfTerm(x)
	}
	kept := func() bool {
		for i, x := range terms {
			if !equalTerms(wide[i], x) || !spareKept(wide[i]) {
				return false
			}
		}
		return true
	}
	if !kept() {
		t.Errorf("%s changes its argument", name)
	}
	next := 1000
	for i := range results {
		next = scribble(&results[i], next)
	}
	if !kept() {
		t.Errorf("%s returns memory of its argument", name)
	}
	next = 1000
	for i := range results {
		next = scribbled(results[i], next)
	}
	if next < 0 {
		t.Errorf("%s returns memory that is shared within", name)
	}
	again := call(wide)
	for i, x := range again {
		if !equalTerms(x, before[i]) {
			t.Errorf("%s keeps a state", name)
		}
	}
}

// scribble writes numbers, from next on, over all of a term, its spare room included, and returns the next number.
func scribble(t *impl.Term, next int) int {
	t.N = next
	next++
	l := t.Type[:cap(t.Type)]
	for i := range l {
		l[i] = next
		next++
	}
	kids := t.Kids[:cap(t.Kids)]
	for k := range kids {
		next = scribble(&kids[k], next)
	}
	return next
}

// scribbled returns the next number, as scribble did, or a negative one if something else stands there by now.
func scribbled(t impl.Term, next int) int {
	if t.N != next {
		return -1 << 62
	}
	next++
	for _, n := range t.Type[:cap(t.Type)] {
		if n != next {
			return -1 << 62
		}
		next++
	}
	for _, kid := range t.Kids[:cap(t.Kids)] {
		next = scribbled(kid, next)
	}
	return next
}
