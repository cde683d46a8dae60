package tests

import (
	"slices"
	"strconv"
	"strings"
	"testing"

	"loop.example/g03111/impl"
)

// slowMachine runs terms by what is to be done next: each look is handed a function for that to which it leads, which
// is never called if there are too many looks.
type slowMachine struct {
	slowTyper
	cells []slowCell
	looks int
}

// slowCell has an environment that begins with the outermost variable.
type slowCell struct {
	budget, booked int
	term           impl.Term
	env            []int
}

func (m *slowMachine) cell(budget int, t impl.Term, env []int) int {
	m.cells = append(m.cells, slowCell{budget: budget, term: t, env: env})
	return len(m.cells) - 1
}

func (m *slowMachine) look(q int, t impl.Term, env []int, then func(impl.Term, []int)) {
	m.looks++
	if m.looks > 3000 {
		return
	}
	added := func(more ...int) []int { return slices.Concat(env, more) }
	switch t.Op {
	case impl.TmVar:
		n := env[len(env)-1-t.N]
		m.cells[n].booked = m.plus(m.cells[n].booked, q)
		m.look(q, m.cells[n].term, m.cells[n].env, then)
	case impl.TmAdd:
		m.look(q, t.Kids[0], env, func(a impl.Term, _ []int) {
			m.look(q, t.Kids[1], env, func(b impl.Term, _ []int) { then(numberTerm((a.N+b.N)%3), nil) })
		})
	case impl.TmIf:
		m.look(q, t.Kids[0], env, func(a impl.Term, _ []int) { m.look(q, t.Kids[min(a.N, 1)+1], env, then) })
	case impl.TmApp:
		m.look(q, t.Kids[0], env, func(f impl.Term, of []int) {
			n := m.cell(m.times(q, f.N), t.Kids[1], env)
			m.look(q, f.Kids[0], slices.Concat(of, []int{n}), then)
		})
	case impl.TmSplit:
		g := m.times(q, t.N)
		m.look(g, t.Kids[0], env, func(p impl.Term, of []int) {
			first := m.cell(g, p.Kids[0], of)
			second := m.cell(g, p.Kids[1], of)
			m.look(q, t.Kids[1], added(first, second), then)
		})
	case impl.TmCase:
		g := m.times(q, t.N)
		m.look(g, t.Kids[0], env, func(x impl.Term, of []int) {
			body := map[int]impl.Term{impl.TmLeft: t.Kids[1], impl.TmRight: t.Kids[2]}[x.Op]
			m.look(q, body, added(m.cell(g, x.Kids[0], of)), then)
		})
	case impl.TmOpen:
		g := m.times(q, t.N)
		m.look(g, t.Kids[0], env, func(x impl.Term, of []int) {
			m.look(q, t.Kids[1], added(m.cell(m.times(g, x.N), x.Kids[0], of)), then)
		})
	default:
		then(t, env)
	}
}

func (m *slowMachine) tell(q int, t impl.Term, env []int, then func(impl.Term)) {
	m.look(q, t, env, func(x impl.Term, env []int) {
		told := impl.Term{Op: x.Op, N: x.N, Type: x.Type}
		switch x.Op {
		case impl.TmNum:
			then(told)
		case impl.TmPair:
			m.tell(q, x.Kids[0], env, func(a impl.Term) {
				m.tell(q, x.Kids[1], env, func(b impl.Term) {
					told.Kids = []impl.Term{a, b}
					then(told)
				})
			})
		default:
			if x.Op == impl.TmBox {
				q = m.times(q, x.N)
			}
			m.tell(q, x.Kids[0], env, func(a impl.Term) {
				told.Kids = []impl.Term{a}
				then(told)
			})
		}
	})
}

// slowRun takes a program for granted that may be run.
func slowRun(s impl.System, t impl.Term) string {
	m, text := slowMachine{slowTyper: slowTyper{s: s}}, "fails"
	m.tell(1, t, nil, func(told impl.Term) {
		var cells []impl.Cell
		for _, c := range m.cells {
			cells = append(cells, impl.Cell{Budget: c.budget, Booked: c.booked})
		}
		text = runText(told, m.looks, cells)
	})
	return text
}

// slowEvaluate takes a term and values for granted that may be evaluated.
func slowEvaluate(s impl.System, t impl.Term, values []impl.Term) string {
	m, text := slowMachine{slowTyper: slowTyper{s: s}}, "fails"
	var env []int
	for _, v := range values {
		env = append([]int{m.cell(0, v, nil)}, env...)
	}
	m.tell(1, t, env, func(told impl.Term) {
		var booked []int
		for _, c := range m.cells[:len(values)] {
			booked = append(booked, c.booked)
		}
		text = evaluatedText(told, booked)
	})
	return text
}

// runText writes down what is told, the number of looks, and each cell's budget and what is booked in it.
func runText(told impl.Term, looks int, cells []impl.Cell) string {
	text := textOf(told) + " " + strconv.Itoa(looks)
	for _, c := range cells {
		text += " " + strconv.Itoa(c.Budget) + "/" + strconv.Itoa(c.Booked)
	}
	return text
}

func evaluatedText(told impl.Term, booked []int) string {
	return strings.Join(append([]string{textOf(told)}, digitsOf(booked)...), " ")
}

// run asks the program.
func run(t *testing.T, s impl.System, x impl.Term) string {
	t.Helper()
	told, cells, looks, ok := impl.RunProgram(s, x)
	if ok {
		return runText(told, looks, cells)
	}
	if !isZeroTerm(told) || len(cells) > 0 || looks != 0 {
		t.Errorf("RunProgram fails with %v, %v, %d", told, cells, looks)
	}
	return "fails"
}

func evaluated(t *testing.T, s impl.System, ctx [][]int, x impl.Term, values []impl.Term) string {
	t.Helper()
	told, booked, ok := impl.Evaluate(s, ctx, x, values)
	if ok {
		return evaluatedText(told, booked)
	}
	if !isZeroTerm(told) || len(booked) > 0 {
		t.Errorf("Evaluate fails with %v, %v", told, booked)
	}
	return "fails"
}

// table writes the table down, or fails.
func table(t *testing.T, s impl.System, ctx [][]int, x impl.Term) string {
	t.Helper()
	places, ok := impl.TableOf(s, ctx, x)
	if ok {
		return strings.Join(digitsOf(places), " ")
	}
	if len(places) > 0 {
		t.Errorf("TableOf fails with %v", places)
	}
	return "fails"
}

// valueLists returns all lists of values of data types, that of the first type changing fastest.
func valueLists(t *testing.T, ctx [][]int) [][]impl.Term {
	t.Helper()
	lists := [][]impl.Term{nil}
	for _, ty := range ctx {
		var more [][]impl.Term
		for _, v := range slowValues(ty) {
			for _, l := range lists {
				more = append(more, append(slices.Clone(l), parsed(t, v)))
			}
		}
		lists = more
	}
	return lists
}

// slowTable takes data types with few values for granted.
func slowTable(t *testing.T, s impl.System, ctx [][]int, ty []int, x impl.Term) string {
	t.Helper()
	var places []string
	for _, l := range valueLists(t, ctx) {
		told, _, _ := strings.Cut(slowEvaluate(s, x, l), " ")
		place := slices.Index(slowValues(ty), told)
		if place < 0 {
			return "fails"
		}
		places = append(places, strconv.Itoa(place))
	}
	return strings.Join(places, " ")
}

// valuesOf reads values that are written with spaces between them.
func valuesOf(t *testing.T, text string) []impl.Term {
	t.Helper()
	var values []impl.Term
	for _, v := range strings.Fields(text) {
		values = append(values, parsed(t, v))
	}
	return values
}

// looking is the text of a term of the type n that has no variables of the root and takes just so many looks, any
// number but 2. It needs functions of the grade 2.
func looking(looks int) string {
	switch {
	case looks == 1:
		return "1"
	case looks%2 == 0:
		return "app(fun:1:n(x0)," + looking(looks-3) + ")"
	case looks == 3 || looks == 5 || looks == 9:
		return "add(1," + looking(looks-2) + ")"
	}
	return "app(fun:2:n(add(x0,x0))," + looking((looks-5)/2) + ")"
}

// doubling is the text of a term of the type n with so many functions around it, each of which takes twice the looks.
func doubling(times int, text string) string {
	return strings.Repeat("app(fun:2:n(add(x0,x0)),", times) + text + strings.Repeat(")", times)
}

// isData looks for arrows only.
func isData(ty []int) bool {
	return !slices.ContainsFunc(ty, func(code int) bool { return code >= 3 && code < 19 })
}

// dataContext is a context without arrows, whose types have few codes.
func (m *typedMaker) dataContext(most int) [][]int {
	for {
		if ctx := m.context(most); !slices.ContainsFunc(ctx, func(ty []int) bool { return !isData(ty) }) {
			return ctx
		}
	}
}

// makeData returns a term in the context that has a data type, and that type.
func (m *typedMaker) makeData(ctx [][]int, fuel int) (impl.Term, []int) {
	for {
		ty := m.typ(4)
		if !isData(ty) {
			continue
		}
		t := m.make(ctx, ty, fuel)
		if f := slowFind(m.s, ctx, t); f.fault == impl.FaultNone && isData(f.ty) && sizeOf(t) <= 400 {
			return t, f.ty
		}
	}
}

// keepsCells reports, by the tables, whether in each cell what is booked is below its budget.
func keepsCells(s impl.System, cells []impl.Cell) bool {
	for _, c := range cells {
		if !s.Below[c.Booked*s.Size+c.Budget] {
			return false
		}
	}
	return true
}
