package tests

import (
	"fmt"
	"maps"
	"math/rand"
	"reflect"
	"regexp"
	"slices"
	"strconv"
	"strings"
	"sync"
	"testing"

	"loop.example/g03111/impl"
)

// sessionOf reads a session: the name of its system, its context and its term, with bars between them.
func sessionOf(t *testing.T, text string) impl.Session {
	t.Helper()
	parts := strings.Split(text, "|")
	if len(parts) != 3 {
		t.Fatalf("%s is no session", text)
	}
	return impl.Session{System: systemOf(t, parts[0]), Ctx: contextOf(t, parts[1]), Term: parsed(t, parts[2])}
}

// sessionText writes a session down for messages, its system by its tables.
func sessionText(x impl.Session) string {
	var types []string
	for _, ty := range x.Ctx {
		types = append(types, typeText(ty))
	}
	return fmt.Sprint(x.System, "|", strings.Join(types, " "), "|", textOf(x.Term))
}

func equalSessions(a, b impl.Session) bool {
	return equalSystems(a.System, b.System) && slices.EqualFunc(a.Ctx, b.Ctx, slices.Equal[[]int]) && equalTerms(a.Term, b.Term)
}

func isZeroSession(x impl.Session) bool {
	s := x.System
	return s.Size == 0 && len(s.Plus)+len(s.Times)+len(s.Below)+len(x.Ctx) == 0 && isZeroTerm(x.Term)
}

// wideSession copies a session with spare room in each slice that later reveals a write.
func wideSession(x impl.Session) impl.Session {
	s := x.System
	wide := impl.System{Size: s.Size, Plus: wideList(s.Plus), Times: wideList(s.Times)}
	wide.Below = append(slices.Clone(s.Below), true, false)[:len(s.Below)]
	return impl.Session{System: wide, Ctx: wideContext(x.Ctx), Term: copyOfTerm(x.Term)}
}

// executed asks the program for the line in a session, and looks for what holds of any line.
func executed(t *testing.T, x impl.Session, line string) (impl.Session, string) {
	t.Helper()
	wide := wideSession(x)
	before := dump(reflect.ValueOf(wide))
	behind, answer := impl.ExecuteLine(wide, line)
	if dump(reflect.ValueOf(wide)) != before {
		t.Errorf("%q changes its argument", line)
	}
	if !ownsMemory(behind, wide) {
		t.Errorf("%q leads to a session that shares memory", line)
	}
	if !impl.IsSession(behind) {
		t.Errorf("%q leads from %s to no session", line, sessionText(x))
	}
	if answer == "error" && !equalSessions(behind, x) {
		t.Errorf("%q is an error, but leads from %s to %s", line, sessionText(x), sessionText(behind))
	}
	return behind, answer
}

// linesWithoutText and wordsWithText are all lines that there are.
var (
	linesWithoutText = []string{"clear", "type", "fault", "step", "normal", "run", "infer", "box", "show"}
	wordsWithText    = []string{"system", "variable", "term"}
	lineWithText     = regexp.MustCompile(`(?s)^(` + strings.Join(wordsWithText, "|") + `) (.*)$`)
)

// slowSession executes lines by the second ways of the other chapters.
type slowSession struct{ impl.Session }

func (x *slowSession) answer(line string) string {
	if m := lineWithText.FindStringSubmatch(line); m != nil {
		switch m[1] {
		case "system":
			return x.setSystem(m[2])
		case "variable":
			return x.addVariable(m[2])
		}
		return x.setTerm(m[2])
	}
	answers := map[string]func() string{
		"clear": func() string { x.Ctx = nil; return "ok" },
		"type":  x.typeAnswer, "fault": x.faultAnswer, "step": x.stepAnswer, "normal": x.normalAnswer, "run": x.runAnswer,
		"infer": x.inferAnswer, "box": x.boxAnswer, "show": x.showAnswer,
	}
	if answer := answers[line]; answer != nil {
		return answer()
	}
	return "error"
}

// systemTexts are all texts of systems, in their order.
var systemTexts = sync.OnceValue(func() []string {
	texts := textsOfOnePart()
	for _, a := range textsOfOnePart() {
		for _, b := range textsOfOnePart() {
			if written(a).Size*written(b).Size <= 16 {
				texts = append(texts, a+"*"+b)
			}
		}
	}
	return texts
})

// tablesOfTexts are the systems of systemTexts.
var tablesOfTexts = sync.OnceValue(func() []impl.System {
	var all []impl.System
	for _, text := range systemTexts() {
		all = append(all, written(text))
	}
	return all
})

func (x *slowSession) setSystem(text string) string {
	if !slices.Contains(systemTexts(), text) {
		return "error"
	}
	x.System, x.Ctx = written(text), nil
	return "ok"
}

func (x *slowSession) addVariable(text string) string {
	ty, ok := impl.ParseType(text)
	rest, isType := slowCutType(ty, x.System.Size, false)
	if !ok || !isType || len(rest) > 0 || len(x.Ctx) >= 8 {
		return "error"
	}
	x.Ctx = append([][]int{ty}, x.Ctx...)
	return "ok"
}

func (x *slowSession) setTerm(text string) string {
	term, ok := impl.ParseTerm(text)
	if !ok {
		return "error"
	}
	x.Term = term
	return "ok"
}

// find looks at the term in a context.
func (x *slowSession) find(ctx [][]int) finding {
	if !slowIsTerm(x.Term, x.System.Size, false, len(ctx)) {
		return finding{fault: impl.FaultInput}
	}
	return slowFind(x.System, ctx, x.Term)
}

func slowGrades(l []int) string {
	if text := strings.Trim(fmt.Sprint(l), "[]"); text != "" {
		return text
	}
	return "-"
}

func (x *slowSession) typeAnswer() string {
	f := x.find(x.Ctx)
	if f.fault != impl.FaultNone {
		return "error"
	}
	return typeText(f.ty) + " " + slowGrades(f.needs)
}

func (x *slowSession) faultAnswer() string {
	f := x.find(x.Ctx)
	return strconv.Itoa(f.fault) + " " + slowGrades(f.path)
}

// slowStep contracts the first redex; the result may have too many nodes.
func slowStep(t impl.Term) (impl.Term, bool) {
	for _, p := range placesOf(t) {
		if slowIsRedex(p.term) {
			return slowContractAt(t, p.path), true
		}
	}
	return t, false
}

func (x *slowSession) stepAnswer() string {
	next, ok := slowStep(x.Term)
	if !ok || sizeOf(next) > 400 {
		return "error"
	}
	x.Term = next
	return textOf(next)
}

func (x *slowSession) normalAnswer() string {
	t := x.Term
	for steps := 0; ; steps++ {
		next, more := slowStep(t)
		switch {
		case !more:
			x.Term = t
			return textOf(t) + " " + strconv.Itoa(steps)
		case steps == 300 || sizeOf(next) > 400:
			return "error"
		}
		t = next
	}
}

func (x *slowSession) runAnswer() string {
	f := x.find(nil)
	if f.fault != impl.FaultNone || !isData(f.ty) {
		return "error"
	}
	parts := strings.Fields(slowRun(x.System, x.Term))
	if parts[0] == "fails" {
		return "error"
	}
	text := parts[0]
	for _, cell := range parts[2:] {
		_, booked, _ := strings.Cut(cell, "/")
		text += " " + booked
	}
	if len(parts) == 2 {
		text += " -"
	}
	return text
}

// put makes the text the term of the session, if there is one.
func (x *slowSession) put(t string) string {
	if t == "fails" {
		return "error"
	}
	x.Term, _ = impl.ParseTerm(t)
	return t
}

func (x *slowSession) inferAnswer() string { return x.put(slowInfer(x.System, x.Term)) }

func (x *slowSession) boxAnswer() string {
	if x.find(x.Ctx).fault != impl.FaultNone {
		return "error"
	}
	text := slowBoxer(x.System).text(x.Ctx, x.Term)
	var ctx [][]int
	for _, ty := range x.Ctx {
		ctx = append(ctx, slowBoxType(ty))
		if len(ctx[len(ctx)-1]) > 40 {
			text = "fails"
		}
	}
	if text != "fails" {
		x.Ctx = ctx
	}
	return x.put(text)
}

func (x *slowSession) showAnswer() string {
	isOwn := func(s impl.System) bool { return equalSystems(s, x.System) }
	if i := slices.IndexFunc(tablesOfTexts(), isOwn); i >= 0 {
		return systemTexts()[i] + " " + textOf(x.Term)
	}
	return "? " + textOf(x.Term)
}

// lineMaker makes lines for a session, most of which are no errors.
type lineMaker struct{ r *rand.Rand }

func newLineMaker(seed int) *lineMaker {
	return &lineMaker{r: rand.New(rand.NewSource(int64(seed)))}
}

func (m *lineMaker) line(x impl.Session) string {
	line := m.goodLine(x)
	if m.r.Intn(12) == 0 {
		return m.miss(line)
	}
	return line
}

func (m *lineMaker) goodLine(x impl.Session) string {
	switch n := m.r.Intn(40); {
	case n == 0:
		return "system " + systemTexts()[m.r.Intn(len(systemTexts()))]
	case n == 1:
		return "clear"
	case n == 2:
		// Most of these have no BoxType.
		return "variable " + arrowsAndBoxes(12+m.r.Intn(8), 0)
	case n < 6:
		return "variable " + typeText(madeType(m.r, 1+m.r.Intn(9), x.System.Size+m.r.Intn(20)/19, 4))
	case n < 15:
		return "term " + textOf(m.term(x))
	}
	return linesWithoutText[1+m.r.Intn(len(linesWithoutText)-1)]
}

// term makes terms of the session's system and context, closed ones, open ones, ones that lead far, and any others.
func (m *lineMaker) term(x impl.Session) impl.Term {
	maker := &typedMaker{r: m.r, s: x.System}
	switch m.r.Intn(9) {
	case 0:
		anyTerm := &termMaker{r: m.r, types: smallSamples(), open: true, size: 16}
		t, _ := anyTerm.make(1+m.r.Intn(30), 8)
		return t
	case 1:
		t, _ := impl.ParseTerm(farTerms()[m.r.Intn(len(farTerms()))])
		return t
	case 2, 3:
		t, _ := maker.makeData(nil, 1+m.r.Intn(30))
		return t
	case 4, 5:
		t := plainOpens(maker.make(nil, maker.typ(4), 1+m.r.Intn(20)))
		return m.short(openPart(m.r, x.System, t, 50))
	}
	return m.short(maker.make(x.Ctx, maker.typ(4), 1+m.r.Intn(30)))
}

// smallSamples are the types of newTermMaker.
var smallSamples = sync.OnceValue(func() []typeSample { return newTermMaker(16, true).types })

// farTerms come to an end late, or never.
func farTerms() []string {
	return []string{
		"app(fun:0:n(app(x0,x0)),fun:0:n(app(x0,x0)))", "app(fun:0:n(app(app(x0,x0),x0)),fun:0:n(app(app(x0,x0),x0)))",
		doublings(7), doublings(8), doubling(12, "1"), looking(3000), looking(3001), textOf(growing(401)["app"]), nested(134, "app(x0,|)", "1"),
	}
}

func (m *lineMaker) short(t impl.Term) impl.Term {
	if sizeOf(t) > 400 {
		return numberTerm(1)
	}
	return t
}

// miss changes, takes away or puts in a byte.
func (m *lineMaker) miss(line string) string {
	at := m.r.Intn(len(line))
	with := string(" \x00\n\tAax?01.(*"[m.r.Intn(13)])
	switch m.r.Intn(4) {
	case 0:
		return line[:at] + with + line[at+1:]
	case 1:
		return line[:at] + line[at+1:]
	case 2:
		return line[:at] + with + line[at:]
	}
	return line + with
}

// word is the line's word, by which answers are counted.
func word(line string) string {
	w, _, _ := strings.Cut(line, " ")
	return w
}

// richSession is one in which no line of richLines is an error, and each changes something if it may.
const richSession = "bound 2|>2.nn n|app(fun:2:n(add(x0,x0)),2)"

func richLines() []string {
	return append(slices.Clone(linesWithoutText), "system count 2", "variable !1.n", "term pair(x0,1)")
}

// badSessions are no sessions; the reason is the key.
func badSessions() map[string]impl.Session {
	good := impl.Session{System: impl.BoundSystem(2), Ctx: [][]int{{0}}, Term: numberTerm(0)}
	all := map[string]impl.Session{
		"zero":          {},
		"no system":     {Ctx: good.Ctx, Term: good.Term},
		"a large grade": {System: impl.BoundSystem(2), Ctx: [][]int{{0}, {23, 0}}},
		"count 1":       {System: impl.CountSystem(1), Ctx: [][]int{{22, 0}}},
	}
	systems := badSystems()
	maps.Copy(systems, lawBreakers())
	for reason, s := range systems {
		all["system "+reason] = impl.Session{System: s, Term: good.Term}
		all["system "+reason+", with a variable"] = impl.Session{System: s, Ctx: good.Ctx, Term: variableTerm(0)}
	}
	for reason, ctx := range badContexts() {
		all["context "+reason] = impl.Session{System: good.System, Ctx: ctx, Term: good.Term}
	}
	for reason, x := range badTerms() {
		all["term "+reason] = impl.Session{System: good.System, Ctx: good.Ctx, Term: x}
	}
	for _, nodes := range []int{401, 402, 500} {
		for name, x := range towers(nodes) {
			all["term "+name+" "+strconv.Itoa(nodes)] = impl.Session{System: good.System, Term: x}
		}
	}
	return all
}
