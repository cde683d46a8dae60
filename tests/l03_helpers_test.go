package tests

import (
	"math/rand"
	"slices"
	"strconv"
	"strings"
	"testing"

	"loop.example/g03111/impl"
)

// finding is what the chapter says of a term in a context: a type and needs, or a fault and the path to it.
type finding struct {
	ty    []int
	needs []int
	fault int
	path  []int
}

// String writes the type's text and the needs, or the fault and the path.
func (f finding) String() string {
	if f.fault != impl.FaultNone {
		return strings.Join(append([]string{"fault", strconv.Itoa(f.fault)}, digitsOf(f.path)...), " ")
	}
	return strings.Join(append([]string{typeText(f.ty)}, digitsOf(f.needs)...), " ")
}

// typeText writes a type of the program down without the program.
func typeText(ty []int) string {
	text := ""
	for _, code := range ty {
		switch {
		case code == 35:
			text += ">?."
		case code == 36:
			text += "!?."
		case code >= 19:
			text += "!" + strconv.Itoa(code-19) + "."
		case code >= 3:
			text += ">" + strconv.Itoa(code-3) + "."
		default:
			text += "n*+"[code : code+1]
		}
	}
	return text
}

// found asks the program, and fails the test if its functions do not agree.
func found(t *testing.T, s impl.System, ctx [][]int, x impl.Term) finding {
	t.Helper()
	ty, needs, ok := impl.TypeOf(s, ctx, x)
	fault, path := impl.FaultOf(s, ctx, x)
	if ok != (fault == impl.FaultNone) || ok && (len(path) > 0 || len(needs) != len(ctx)) || !ok && len(ty)+len(needs) > 0 {
		t.Fatalf("%s: TypeOf is %v, %v, %v, and FaultOf %d, %v", textOf(x), ty, needs, ok, fault, path)
	}
	return finding{ty: ty, needs: needs, fault: fault, path: path}
}

// slowFind takes a term of the system s for granted. It is the table of the document, row by row.
func slowFind(s impl.System, ctx [][]int, t impl.Term) finding {
	return slowTyper{s: s}.findAll(ctx, t)
}

// slowTyper has the tables of a system; a fault is thrown as a finding. If given is set, it tells the types and the
// needs of the kids in place of the table.
type slowTyper struct {
	s     impl.System
	given func(k int, ctx [][]int) ([]int, []int)
}

func (x slowTyper) findAll(ctx [][]int, t impl.Term) (f finding) {
	defer func() {
		if r := recover(); r != nil {
			f = r.(finding)
		}
	}()
	ty, needs := x.find(ctx, t, nil)
	return finding{ty: ty, needs: needs}
}

func (x slowTyper) plus(a, b int) int { return x.s.Plus[a*x.s.Size+b] }

func (x slowTyper) times(a, b int) int { return x.s.Times[a*x.s.Size+b] }

func (x slowTyper) below(a, b int) bool { return x.s.Below[a*x.s.Size+b] }

func (x slowTyper) join(a, b int) int { return slowJoin(x.s, a, b) }

func (x slowTyper) each(op func(a, b int) int, l, m []int) []int {
	var r []int
	for i := range l {
		r = append(r, op(l[i], m[i]))
	}
	return r
}

func (x slowTyper) scale(g int, l []int) []int {
	var r []int
	for _, h := range l {
		r = append(r, x.times(g, h))
	}
	return r
}

// slowParts returns the two types behind the first code.
func slowParts(ty []int) ([]int, []int) {
	second, _ := slowCutType(ty[1:], 16, true)
	return ty[1 : len(ty)-len(second)], second
}

func (x slowTyper) find(ctx [][]int, t impl.Term, path []int) ([]int, []int) {
	demand := func(holds bool, fault int) {
		if !holds {
			panic(finding{fault: fault, path: slices.Clone(path)})
		}
	}
	kid := func(k int, added ...[]int) ([]int, []int, []int) {
		inKid := slices.Concat(added, ctx)
		if x.given != nil {
			ty, needs := x.given(k, inKid)
			return ty, needs[:len(added)], needs[len(added):]
		}
		ty, needs := x.find(inKid, t.Kids[k], append(slices.Clone(path), k))
		return ty, needs[:len(added)], needs[len(added):]
	}
	short := func(ty []int) []int {
		demand(len(ty) <= 40, impl.FaultSame)
		return ty
	}
	isNum := func(ty []int) bool { return slices.Equal(ty, []int{0}) }
	starts := func(ty []int, from, to int) bool { return ty[0] >= from && ty[0] < to }
	under := func(used []int, limit int) {
		for _, g := range used {
			demand(x.below(g, limit), impl.FaultNeed)
		}
	}
	none := make([]int, len(ctx))
	switch t.Op {
	case impl.TmVar:
		none[t.N] = 1
		return ctx[t.N], none
	case impl.TmNum:
		return []int{0}, none
	case impl.TmAdd:
		a, _, of := kid(0)
		demand(isNum(a), impl.FaultNumber)
		b, _, more := kid(1)
		demand(isNum(b), impl.FaultNumber)
		return []int{0}, x.each(x.plus, of, more)
	case impl.TmIf:
		a, _, of := kid(0)
		demand(isNum(a), impl.FaultNumber)
		b, _, then := kid(1)
		c, _, otherwise := kid(2)
		demand(slices.Equal(b, c), impl.FaultSame)
		return b, x.each(x.plus, of, x.each(x.join, then, otherwise))
	case impl.TmPair:
		a, _, of := kid(0)
		b, _, more := kid(1)
		return short(slices.Concat([]int{1}, a, b)), x.each(x.plus, of, more)
	case impl.TmSplit:
		a, _, of := kid(0)
		demand(a[0] == 1, impl.FaultPair)
		demand(x.below(1, t.N), impl.FaultGrade)
		first, second := slowParts(a)
		b, used, more := kid(1, second, first)
		under(used, t.N)
		return b, x.each(x.plus, x.scale(t.N, of), more)
	case impl.TmLeft:
		a, _, of := kid(0)
		return short(slices.Concat([]int{2}, a, t.Type)), of
	case impl.TmRight:
		a, _, of := kid(0)
		return short(slices.Concat([]int{2}, t.Type, a)), of
	case impl.TmCase:
		a, _, of := kid(0)
		demand(a[0] == 2, impl.FaultSum)
		demand(x.below(1, t.N), impl.FaultGrade)
		left, right := slowParts(a)
		b, usedLeft, then := kid(1, left)
		c, usedRight, otherwise := kid(2, right)
		demand(slices.Equal(b, c), impl.FaultSame)
		under(usedLeft, t.N)
		under(usedRight, t.N)
		return b, x.each(x.plus, x.scale(t.N, of), x.each(x.join, then, otherwise))
	case impl.TmFun:
		b, used, of := kid(0, t.Type)
		under(used, t.N)
		return short(slices.Concat([]int{3 + t.N}, t.Type, b)), of
	case impl.TmApp:
		a, _, of := kid(0)
		demand(starts(a, 3, 19), impl.FaultArrow)
		from, to := slowParts(a)
		b, _, more := kid(1)
		demand(slices.Equal(from, b), impl.FaultSame)
		return to, x.each(x.plus, of, x.scale(a[0]-3, more))
	case impl.TmBox:
		a, _, of := kid(0)
		return short(slices.Concat([]int{19 + t.N}, a)), x.scale(t.N, of)
	case impl.TmOpen:
		a, _, of := kid(0)
		demand(starts(a, 19, 35), impl.FaultBox)
		demand(x.below(1, t.N), impl.FaultGrade)
		b, used, more := kid(1, a[1:])
		under(used, x.times(t.N, a[0]-19))
		return b, x.each(x.plus, x.scale(t.N, of), more)
	}
	panic("an unknown Op")
}

// slowAdded returns the types of the variables that t adds for its kid k; where it needs the type of the first kid, that
// is found anew.
func slowAdded(s impl.System, ctx [][]int, t impl.Term, k int) [][]int {
	typeOfFirst := func() []int { return slowFind(s, ctx, t.Kids[0]).ty }
	switch {
	case t.Op == impl.TmFun:
		return [][]int{t.Type}
	case t.Op == impl.TmSplit && k == 1:
		first, second := slowParts(typeOfFirst())
		return [][]int{second, first}
	case t.Op == impl.TmCase && k == 1:
		left, _ := slowParts(typeOfFirst())
		return [][]int{left}
	case t.Op == impl.TmCase && k == 2:
		_, right := slowParts(typeOfFirst())
		return [][]int{right}
	case t.Op == impl.TmOpen && k == 1:
		return [][]int{typeOfFirst()[1:]}
	}
	return nil
}

// typedMaker makes terms that have a type, or nearly so.
type typedMaker struct {
	r *rand.Rand
	s impl.System
}

func newTypedMaker(s impl.System) *typedMaker {
	return &typedMaker{r: rand.New(rand.NewSource(3)), s: s}
}

func (m *typedMaker) grade() int { return m.r.Intn(m.s.Size) }

func (m *typedMaker) typ(codes int) []int {
	if codes <= 1 || m.r.Intn(3) == 0 {
		return []int{0}
	}
	left := m.typ(codes / 2)
	switch m.r.Intn(5) {
	case 0:
		return slices.Concat([]int{1}, left, m.typ(codes/2))
	case 1:
		return slices.Concat([]int{2}, left, m.typ(codes/2))
	case 2:
		return slices.Concat([]int{3 + m.grade()}, left, m.typ(codes/2))
	}
	return append([]int{19 + m.grade()}, left...)
}

func (m *typedMaker) context(most int) [][]int {
	var ctx [][]int
	for range m.r.Intn(most + 1) {
		ctx = append(ctx, m.typ(4))
	}
	return ctx
}

// graded tries grades until the term has a type, if one of a few leads there.
func (m *typedMaker) graded(ctx [][]int, with func(g int) impl.Term) impl.Term {
	t := with(m.grade())
	for range 12 {
		if slowFind(m.s, ctx, t).fault == impl.FaultNone {
			break
		}
		t = with(m.grade())
	}
	return t
}

// make returns a term that has the type ty but for its grades, and now and then but for a part.
func (m *typedMaker) make(ctx [][]int, ty []int, fuel int) impl.Term {
	if m.r.Intn(150) == 0 {
		ty = m.typ(4)
	}
	if fuel <= 0 || m.r.Intn(5) == 0 {
		for _, i := range m.r.Perm(len(ctx)) {
			if slices.Equal(ctx[i], ty) {
				return variableTerm(i)
			}
		}
	}
	if fuel <= 0 || m.r.Intn(2) == 0 {
		return m.introduce(ctx, ty, fuel-1)
	}
	return m.eliminate(ctx, ty, fuel-1)
}

func (m *typedMaker) introduce(ctx [][]int, ty []int, fuel int) impl.Term {
	switch {
	case ty[0] == 0 && fuel > 0:
		return leastTerm(impl.TmAdd, m.make(ctx, ty, fuel/2), m.make(ctx, ty, fuel/2))
	case ty[0] == 0:
		return numberTerm(m.r.Intn(3))
	case ty[0] >= 19:
		return impl.Term{Op: impl.TmBox, N: ty[0] - 19, Kids: []impl.Term{m.make(ctx, ty[1:], fuel)}}
	}
	first, second := slowParts(ty)
	switch {
	case ty[0] == 1:
		return leastTerm(impl.TmPair, m.make(ctx, first, fuel/2), m.make(ctx, second, fuel/2))
	case ty[0] == 2 && m.r.Intn(2) == 0:
		return impl.Term{Op: impl.TmLeft, Type: second, Kids: []impl.Term{m.make(ctx, first, fuel)}}
	case ty[0] == 2:
		return impl.Term{Op: impl.TmRight, Type: first, Kids: []impl.Term{m.make(ctx, second, fuel)}}
	}
	body := m.make(slices.Concat([][]int{first}, ctx), second, fuel)
	return impl.Term{Op: impl.TmFun, N: ty[0] - 3, Type: first, Kids: []impl.Term{body}}
}

func (m *typedMaker) eliminate(ctx [][]int, ty []int, fuel int) impl.Term {
	first, second, n, part := m.typ(3), m.typ(3), []int{0}, fuel/3
	under := func(added ...[]int) impl.Term { return m.make(slices.Concat(added, ctx), ty, part) }
	switch m.r.Intn(6) {
	case 0:
		return leastTerm(impl.TmIf, m.make(ctx, n, part), under(), under())
	case 1:
		a := m.make(ctx, slices.Concat([]int{1}, first, second), part)
		b := under(second, first)
		return m.graded(ctx, func(g int) impl.Term { return impl.Term{Op: impl.TmSplit, N: g, Kids: []impl.Term{a, b}} })
	case 2:
		a := m.make(ctx, slices.Concat([]int{2}, first, second), part)
		b, c := under(first), under(second)
		return m.graded(ctx, func(g int) impl.Term { return impl.Term{Op: impl.TmCase, N: g, Kids: []impl.Term{a, b, c}} })
	case 3:
		b := m.make(ctx, first, part)
		body := under(first)
		return m.graded(ctx, func(g int) impl.Term {
			return leastTerm(impl.TmApp, impl.Term{Op: impl.TmFun, N: g, Type: first, Kids: []impl.Term{body}}, b)
		})
	case 4:
		a := m.make(ctx, slices.Concat([]int{3 + m.grade()}, first, ty), part)
		return leastTerm(impl.TmApp, a, m.make(ctx, first, part))
	}
	a := m.make(ctx, append([]int{19 + m.grade()}, first...), part)
	b := under(first)
	return m.graded(ctx, func(g int) impl.Term { return impl.Term{Op: impl.TmOpen, N: g, Kids: []impl.Term{a, b}} })
}

// systemOf returns the system that a test names: one of goodSystems or one with a text.
func systemOf(t *testing.T, name string) impl.System {
	t.Helper()
	if s, ok := goodSystems()[name]; ok {
		return s
	}
	s, ok := impl.ParseSystem(name)
	if !ok {
		t.Fatalf("no system is named %s", name)
	}
	return s
}

// contextOf reads a context that is written with spaces between its types.
func contextOf(t *testing.T, text string) [][]int {
	t.Helper()
	var ctx [][]int
	for _, part := range strings.Fields(text) {
		ty, ok := impl.ParseType(part)
		if !ok {
			t.Fatalf("%s is no type", part)
		}
		ctx = append(ctx, ty)
	}
	return ctx
}

// badContexts are no contexts of a system with four grades; the reason is the key.
func badContexts() map[string][][]int {
	bad := map[string][][]int{
		"nine types":            slices.Repeat([][]int{{0}}, 9),
		"a million types":       make([][]int, 1000000),
		"open arrow":            {{35, 0, 0}},
		"open box":              {{0}, {36, 0}},
		"grade 4 of an arrow":   {{7, 0, 0}},
		"grade 4 of a box":      {{0}, {0}, {23, 0}},
		"the last one of eight": append(slices.Repeat([][]int{{0}}, 7), []int{}),
	}
	for reason, ty := range badTypes() {
		bad["type "+reason] = [][]int{{0}, ty}
	}
	return bad
}

// wideContext copies a context with spare room in each list, which keptContext looks at.
func wideContext(ctx [][]int) [][]int {
	wide := make([][]int, len(ctx), len(ctx)+2)
	for i, ty := range ctx {
		wide[i] = append(slices.Clone(ty), -9)[:len(ty)]
	}
	return wide
}

func keptContext(wide, ctx [][]int) bool {
	for _, ty := range wide[len(wide):cap(wide)] {
		if ty != nil {
			return false
		}
	}
	for _, ty := range wide {
		if ty[:len(ty)+1][len(ty)] != -9 {
			return false
		}
	}
	return slices.EqualFunc(wide, ctx, slices.Equal[[]int])
}

func wideList(l []int) []int { return append(slices.Clone(l), -9)[:len(l)] }

func keptList(wide, l []int) bool {
	return slices.Equal(wide, l) && wide[:len(wide)+1][len(wide)] == -9
}

// allDistinct writes over all of the lists, spare room included, and reports whether no two share memory.
func allDistinct(lists [][]int) bool {
	next := 1000
	for _, l := range lists {
		for i := range l[:cap(l)] {
			l[:cap(l)][i] = next
			next++
		}
	}
	next = 1000
	for _, l := range lists {
		for _, n := range l[:cap(l)] {
			if n != next {
				return false
			}
			next++
		}
	}
	return true
}

// longType is a text of so many codes.
func longType(codes int) string { return strings.Repeat("!1.", codes-1) + "n" }
