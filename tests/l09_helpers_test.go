package tests

import (
	"math/rand"
	"regexp"
	"slices"
	"strconv"
	"strings"
	"testing"

	"loop.example/g03111/impl"
)

var (
	gradeOfTerm = regexp.MustCompile(`(split|case|fun|box|open):(\d+|\?)`)
	gradeOfType = regexp.MustCompile(`([>!])(\d+|\?)\.`)
	gradeOfOpen = regexp.MustCompile(`open:\?`)
)

// slowCountOpen counts in the text: each place has its mark there, in the order of the places.
func slowCountOpen(t impl.Term) int { return strings.Count(textOf(t), "?") }

func slowOpenAll(t impl.Term) string {
	text := gradeOfTerm.ReplaceAllString(textOf(t), "$1:?")
	text = gradeOfType.ReplaceAllString(text, "$1?.")
	return gradeOfOpen.ReplaceAllString(text, "open:1")
}

// slowFillOpen takes a list of the right length.
func slowFillOpen(t impl.Term, l []int) string {
	parts := strings.Split(textOf(t), "?")
	text := []string{parts[0]}
	for i, g := range l {
		text = append(text, strconv.Itoa(g), parts[i+1])
	}
	return strings.Join(text, "")
}

// gradesOf returns the grades of a term in the order of its text, but for those of opens.
func gradesOf(t impl.Term) []int {
	var l []int
	if rows[t.Op].graded && t.Op != impl.TmOpen {
		l = append(l, t.N)
	}
	for _, code := range t.Type {
		switch {
		case code >= 35:
			l = append(l, -1)
		case code >= 19:
			l = append(l, code-19)
		case code >= 3:
			l = append(l, code-3)
		}
	}
	for _, kid := range t.Kids {
		l = append(l, gradesOf(kid)...)
	}
	return l
}

// plainOpens returns the term with 1 as the grade of each open.
func plainOpens(t impl.Term) impl.Term {
	c := impl.Term{Op: t.Op, N: t.N, Type: slices.Clone(t.Type)}
	if t.Op == impl.TmOpen {
		c.N = 1
	}
	for _, kid := range t.Kids {
		c.Kids = append(c.Kids, plainOpens(kid))
	}
	return c
}

// termText checks that a call which fails returns nothing else, and writes its result down.
func termText(t *testing.T, call string, x impl.Term, ok bool) string {
	t.Helper()
	if ok {
		return textOf(x)
	}
	if !isZeroTerm(x) {
		t.Errorf("%s fails with a term", call)
	}
	return "fails"
}

func opened(t *testing.T, x impl.Term) string {
	t.Helper()
	y, ok := impl.OpenAll(x)
	return termText(t, "OpenAll", y, ok)
}

func filled(t *testing.T, x impl.Term, l ...int) string {
	t.Helper()
	y, ok := impl.FillOpen(x, l)
	return termText(t, "FillOpen", y, ok)
}

func inferred(t *testing.T, s impl.System, x impl.Term) string {
	t.Helper()
	y, ok := impl.InferGrades(s, x)
	return termText(t, "InferGrades", y, ok)
}

// openPart leaves some grades of a term open, or all of them, but for those of opens, and now and then changes one.
func openPart(r *rand.Rand, s impl.System, t impl.Term, chance int) impl.Term {
	fate := func(g int) int {
		switch {
		case r.Intn(100) < chance:
			return -1
		case r.Intn(40) == 0:
			return r.Intn(s.Size)
		}
		return g
	}
	c := impl.Term{Op: t.Op, N: t.N}
	if rows[t.Op].graded && t.Op != impl.TmOpen {
		c.N = fate(t.N)
	}
	for _, code := range t.Type {
		open, first := 35, 3
		if code >= 19 {
			open, first = 36, 19
		}
		if code >= 3 {
			if g := fate(code - first); g < 0 {
				code = open
			} else {
				code = first + g
			}
		}
		c.Type = append(c.Type, code)
	}
	for _, kid := range t.Kids {
		c.Kids = append(c.Kids, openPart(r, s, kid, chance))
	}
	return c
}

// leastSystems are systems whose least grade is 0.
func leastSystems() []string {
	return []string{
		"bound 1", "bound 2", "bound 5", "level 1", "level 2", "level 5", "fading", "sumsLost", "factorsLost",
		"level 1*level 1", "bound 1*level 1", "level 2*bound 1", "bound 1*bound 1", "bound 2*bound 2",
	}
}

// slowGrade is a grade, known or looked for, unless it is the same as another one.
type slowGrade struct {
	value int
	fixed bool
	same  *slowGrade
}

func (g *slowGrade) last() *slowGrade {
	for g.same != nil {
		g = g.same
	}
	return g
}

type slowType struct {
	form  byte
	grade *slowGrade
	parts []*slowType
}

func (ty *slowType) codes() int {
	n := 1
	for _, part := range ty.parts {
		n += part.codes()
	}
	return n
}

// slowVariable is a variable that some term adds.
type slowVariable struct{ ty *slowType }

// slowNeeds has a need for each variable that is used.
type slowNeeds map[*slowVariable]func() int

type slowBound struct {
	need  func() int
	limit *slowGrade
}

// slowInferrer finds least grades with types that are trees, variables that are no indices, and needs that are reckoned
// anew each time.
type slowInferrer struct {
	slowTyper
	places []*slowGrade
	bounds []slowBound
}

// slowInfer takes a written term; it returns its text with least grades, or "fails".
func slowInfer(s impl.System, t impl.Term) (text string) {
	if !slowIsTerm(t, s.Size, true, 0) || slices.Contains(s.Below[:s.Size], false) || !equalTerms(t, plainOpens(t)) {
		return "fails"
	}
	defer func() {
		if r := recover(); r == "no solution" {
			text = "fails"
		} else if r != nil {
			panic(r)
		}
	}()
	x := &slowInferrer{slowTyper: slowTyper{s: s}}
	x.walk(t, nil)
	for again := true; again; {
		again = false
		for _, b := range x.bounds {
			need, limit := b.need(), b.limit.last()
			if x.below(need, limit.value) {
				continue
			}
			x.demand(!limit.fixed)
			limit.value = x.join(limit.value, need)
			again = true
		}
	}
	var l []int
	for _, g := range x.places {
		l = append(l, g.last().value)
	}
	return slowFillOpen(t, l)
}

func (x *slowInferrer) demand(holds bool) {
	if !holds {
		panic("no solution")
	}
}

func (x *slowInferrer) grade(g int) *slowGrade {
	if g >= 0 {
		return &slowGrade{value: g, fixed: true}
	}
	open := &slowGrade{}
	x.places = append(x.places, open)
	return open
}

// tree reads a type from the front of a list.
func (x *slowInferrer) tree(l *[]int) *slowType {
	code := (*l)[0]
	*l = (*l)[1:]
	ty, parts := &slowType{form: 'n'}, 0
	switch {
	case code == 1:
		ty.form, parts = '*', 2
	case code == 2:
		ty.form, parts = '+', 2
	case code == 35:
		ty.form, parts, ty.grade = '>', 2, x.grade(-1)
	case code == 36:
		ty.form, parts, ty.grade = '!', 1, x.grade(-1)
	case code >= 19:
		ty.form, parts, ty.grade = '!', 1, x.grade(code-19)
	case code >= 3:
		ty.form, parts, ty.grade = '>', 2, x.grade(code-3)
	}
	for range parts {
		ty.parts = append(ty.parts, x.tree(l))
	}
	return ty
}

func (x *slowInferrer) unite(a, b *slowType) {
	x.demand(a.form == b.form)
	if a.grade != nil {
		g, h := a.grade.last(), b.grade.last()
		switch {
		case g == h:
		case !g.fixed:
			g.same = h
		case !h.fixed:
			h.same = g
		default:
			x.demand(g.value == h.value)
		}
	}
	for i := range a.parts {
		x.unite(a.parts[i], b.parts[i])
	}
}

// under walks through a kid with more variables, what it uses of which must be below the limit.
func (x *slowInferrer) under(t impl.Term, env []*slowVariable, limit *slowGrade, types ...*slowType) (*slowType, slowNeeds) {
	var added []*slowVariable
	for _, ty := range types {
		added = append(added, &slowVariable{ty})
	}
	ty, needs := x.walk(t, slices.Concat(added, env))
	for _, v := range added {
		if need := needs[v]; need != nil {
			x.bounds = append(x.bounds, slowBound{need, limit})
		}
		delete(needs, v)
	}
	return ty, needs
}

func (x *slowInferrer) combined(op func(a, b int) int, a, b slowNeeds) slowNeeds {
	all := slowNeeds{}
	value := func(need func() int) int {
		if need == nil {
			return 0
		}
		return need()
	}
	for _, needs := range []slowNeeds{a, b} {
		for v := range needs {
			first, second := a[v], b[v]
			all[v] = func() int { return op(value(first), value(second)) }
		}
	}
	return all
}

func (x *slowInferrer) multiplied(g *slowGrade, needs slowNeeds) slowNeeds {
	all := slowNeeds{}
	for v, need := range needs {
		all[v] = func() int { return x.times(g.last().value, need()) }
	}
	return all
}

func (x *slowInferrer) walk(t impl.Term, env []*slowVariable) (*slowType, slowNeeds) {
	ty, needs := x.row(t, env)
	x.demand(ty.codes() <= 40)
	return ty, needs
}

func (x *slowInferrer) row(t impl.Term, env []*slowVariable) (*slowType, slowNeeds) {
	n := &slowType{form: 'n'}
	var grade *slowGrade
	var side *slowType
	if rows[t.Op].graded {
		grade = x.grade(t.N)
	}
	if rows[t.Op].typed {
		l := t.Type
		side = x.tree(&l)
	}
	switch t.Op {
	case impl.TmVar:
		return env[t.N].ty, slowNeeds{env[t.N]: func() int { return 1 }}
	case impl.TmNum:
		return n, slowNeeds{}
	case impl.TmLeft:
		a, needs := x.walk(t.Kids[0], env)
		return &slowType{form: '+', parts: []*slowType{a, side}}, needs
	case impl.TmRight:
		a, needs := x.walk(t.Kids[0], env)
		return &slowType{form: '+', parts: []*slowType{side, a}}, needs
	case impl.TmFun:
		b, needs := x.under(t.Kids[0], env, grade, side)
		return &slowType{form: '>', grade: grade, parts: []*slowType{side, b}}, needs
	case impl.TmBox:
		a, needs := x.walk(t.Kids[0], env)
		return &slowType{form: '!', grade: grade, parts: []*slowType{a}}, x.multiplied(grade, needs)
	}
	a, needs := x.walk(t.Kids[0], env)
	if t.Op == impl.TmSplit || t.Op == impl.TmCase {
		x.bounds = append(x.bounds, slowBound{func() int { return 1 }, grade})
		needs = x.multiplied(grade, needs)
	}
	switch t.Op {
	case impl.TmAdd, impl.TmPair:
		b, needsOfB := x.walk(t.Kids[1], env)
		needs = x.combined(x.plus, needs, needsOfB)
		if t.Op == impl.TmPair {
			return &slowType{form: '*', parts: []*slowType{a, b}}, needs
		}
		x.unite(a, n)
		x.unite(b, n)
		return n, needs
	case impl.TmIf, impl.TmCase:
		b, needsOfB, c, needsOfC := x.branches(t, env, grade, a)
		x.unite(b, c)
		return b, x.combined(x.plus, needs, x.combined(x.join, needsOfB, needsOfC))
	case impl.TmSplit:
		x.demand(a.form == '*')
		b, needsOfB := x.under(t.Kids[1], env, grade, a.parts[1], a.parts[0])
		return b, x.combined(x.plus, needs, needsOfB)
	case impl.TmApp:
		x.demand(a.form == '>')
		b, needsOfB := x.walk(t.Kids[1], env)
		x.unite(a.parts[0], b)
		return a.parts[1], x.combined(x.plus, needs, x.multiplied(a.grade, needsOfB))
	}
	x.demand(a.form == '!')
	b, needsOfB := x.under(t.Kids[1], env, a.grade, a.parts[0])
	return b, x.combined(x.plus, needs, needsOfB)
}

func (x *slowInferrer) branches(t impl.Term, env []*slowVariable, grade *slowGrade, a *slowType) (*slowType, slowNeeds, *slowType, slowNeeds) {
	if t.Op == impl.TmIf {
		x.demand(a.form == 'n')
		b, needsOfB := x.walk(t.Kids[1], env)
		c, needsOfC := x.walk(t.Kids[2], env)
		return b, needsOfB, c, needsOfC
	}
	x.demand(a.form == '+')
	b, needsOfB := x.under(t.Kids[1], env, grade, a.parts[0])
	c, needsOfC := x.under(t.Kids[2], env, grade, a.parts[1])
	return b, needsOfB, c, needsOfC
}

// allLists calls each with all lists of so many numbers less than size.
func allLists(size, length int, each func(l []int)) {
	l := make([]int, length)
	for {
		each(l)
		i := 0
		for i < length && l[i] == size-1 {
			l[i] = 0
			i++
		}
		if i == length {
			return
		}
		l[i]++
	}
}

// triedOut tries all lists of grades: it returns the text with the solution that is below all others, "fails" if there is
// no solution, and "no least" if there is one, but none is below all others.
func triedOut(s impl.System, t impl.Term) string {
	var solutions [][]int
	allLists(s.Size, slowCountOpen(t), func(l []int) {
		x, ok := impl.ParseTerm(slowFillOpen(t, l))
		if ok && slowIsTerm(x, s.Size, false, 0) && slowFind(s, nil, x).fault == impl.FaultNone {
			solutions = append(solutions, slices.Clone(l))
		}
	})
	if len(solutions) == 0 {
		return "fails"
	}
	for _, l := range solutions {
		isLeast := true
		for _, m := range solutions {
			for i := range l {
				isLeast = isLeast && s.Below[l[i]*s.Size+m[i]]
			}
		}
		if isLeast {
			return slowFillOpen(t, l)
		}
	}
	return "no least"
}

// madeOpenTerms calls each with terms without variables of the root, whose opens have the grade 1 and whose grades are
// open by the chance, in hundredths.
func madeOpenTerms(t *testing.T, name string, count, fuel, chance int, each func(s impl.System, x impl.Term)) {
	s := systemOf(t, name)
	m := newTypedMaker(s)
	for range count {
		x := plainOpens(m.make(nil, m.typ(5), 1+m.r.Intn(fuel)))
		if sizeOf(x) <= 400 {
			each(s, openPart(m.r, s, x, chance))
		}
	}
}

// nested puts a text in place of the bar of another one, so many times.
func nested(times int, around, within string) string {
	before, behind, _ := strings.Cut(around, "|")
	return strings.Repeat(before, times) + within + strings.Repeat(behind, times)
}
