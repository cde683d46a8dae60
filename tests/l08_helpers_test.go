package tests

import (
	"fmt"
	"reflect"
	"slices"
	"strconv"
	"strings"
	"testing"

	"loop.example/g03111/impl"
)

// judgmentOf reads a judgment: its context, its budgets, its term, its type and the steps that it is from, with bars
// between them.
func judgmentOf(t *testing.T, text string) impl.Judgment {
	t.Helper()
	parts := strings.Split(text, "|")
	if len(parts) != 5 {
		t.Fatalf("%s is no judgment", text)
	}
	return impl.Judgment{
		Ctx:     contextOf(t, parts[0]),
		Budgets: viewOf(t, parts[1]),
		Term:    parsed(t, strings.TrimSpace(parts[2])),
		Type:    parsedType(t, strings.TrimSpace(parts[3])),
		From:    viewOf(t, parts[4]),
	}
}

// stepsOf reads judgments with semicolons between them.
func stepsOf(t *testing.T, text string) []impl.Judgment {
	t.Helper()
	var l []impl.Judgment
	for _, part := range strings.Split(text, ";") {
		if strings.TrimSpace(part) != "" {
			l = append(l, judgmentOf(t, part))
		}
	}
	return l
}

// judgmentText writes a judgment down as judgmentOf reads it.
func judgmentText(j impl.Judgment) string {
	var types []string
	for _, ty := range j.Ctx {
		types = append(types, typeText(ty))
	}
	l := []string{strings.Join(types, " "), strings.Join(digitsOf(j.Budgets), " "), textOf(j.Term), typeText(j.Type)}
	return strings.Join(append(l, strings.Join(digitsOf(j.From), " ")), "|")
}

func stepsText(l []impl.Judgment) string {
	var steps []string
	for _, j := range l {
		steps = append(steps, judgmentText(j))
	}
	return strings.Join(steps, ";")
}

// slowIsJudgment takes a term with fewer nodes than the limit, or just as many.
func slowIsJudgment(s impl.System, j impl.Judgment) bool {
	isType := func(ty []int) bool {
		rest, ok := slowCutType(ty, s.Size, false)
		return ok && len(rest) == 0 && len(ty) <= 40
	}
	for _, ty := range j.Ctx {
		if !isType(ty) {
			return false
		}
	}
	for _, g := range j.Budgets {
		if g < 0 || g >= s.Size {
			return false
		}
	}
	return len(j.Ctx) <= 400 && len(j.Budgets) == len(j.Ctx) && slowIsTerm(j.Term, s.Size, false, len(j.Ctx)) && isType(j.Type)
}

// slowStepHolds looks the row up in the table, with the judgments of the kids in place of what the kids have.
func slowStepHolds(s impl.System, l []impl.Judgment, i int) bool {
	if i < 0 || i >= len(l) || !slowIsJudgment(s, l[i]) || len(l[i].From) != len(l[i].Term.Kids) {
		return false
	}
	j := l[i]
	for k, from := range j.From {
		if from < 0 || from >= i || !slowIsJudgment(s, l[from]) || !equalTerms(l[from].Term, j.Term.Kids[k]) {
			return false
		}
	}
	x := slowTyper{s: s}
	x.given = func(k int, ctx [][]int) ([]int, []int) {
		kid := l[j.From[k]]
		if !slices.EqualFunc(kid.Ctx, ctx, slices.Equal[[]int]) {
			panic(finding{fault: impl.FaultInput})
		}
		return kid.Type, kid.Budgets
	}
	f := x.findAll(j.Ctx, j.Term)
	if f.fault != impl.FaultNone || !slices.Equal(f.ty, j.Type) {
		return false
	}
	for v, need := range f.needs {
		if !x.below(need, j.Budgets[v]) {
			return false
		}
	}
	return true
}

func slowCheck(s impl.System, l []impl.Judgment) int {
	for i := range l {
		if !slowStepHolds(s, l, i) {
			return i
		}
	}
	if len(l) == 0 {
		return 0
	}
	return -1
}

// slowDerive takes a term that has a type, and finds the type of each term within it anew.
func slowDerive(s impl.System, ctx [][]int, t impl.Term) []impl.Judgment {
	var l []impl.Judgment
	var from []int
	for k, kid := range t.Kids {
		for _, j := range slowDerive(s, slices.Concat(slowAdded(s, ctx, t, k), ctx), kid) {
			for n := range j.From {
				j.From[n] += nextIndex(from)
			}
			l = append(l, j)
		}
		from = append(from, len(l)-1)
	}
	f := slowFind(s, ctx, t)
	return append(l, impl.Judgment{Ctx: ctx, Budgets: f.needs, Term: t, Type: f.ty, From: from})
}

// nextIndex returns the index of the first judgment behind those of the kids before.
func nextIndex(from []int) int {
	if len(from) == 0 {
		return 0
	}
	return from[len(from)-1] + 1
}

// derived asks the program for a derivation, and writes it down.
func derived(t *testing.T, s impl.System, ctx [][]int, x impl.Term) string {
	t.Helper()
	l, ok := impl.Derive(s, ctx, x)
	if ok {
		return stepsText(l)
	}
	if len(l) > 0 {
		t.Errorf("Derive of %s fails with %d judgments", textOf(x), len(l))
	}
	return "fails"
}

// variables is the judgment of the variable i in a context of so many numbers.
func variables(n int, i int) impl.Judgment {
	j := impl.Judgment{Ctx: slices.Repeat([][]int{{0}}, n), Budgets: make([]int, n), Term: variableTerm(i), Type: []int{0}}
	if i < n {
		j.Budgets[i] = 1
	}
	return j
}

// splits is a term with so many splits, one within the other, of the pair that the first variable is.
func splits(times int, within impl.Term) impl.Term {
	for d := times - 1; d >= 0; d-- {
		within = leastTerm(impl.TmSplit, variableTerm(2*d), within)
	}
	return within
}

// copyOfJudgments copies a list with all that is within, with spare room in each slice that later reveals a write.
func copyOfJudgments(l []impl.Judgment) []impl.Judgment {
	wide := make([]impl.Judgment, len(l), len(l)+2)
	for i, j := range l {
		wide[i] = impl.Judgment{
			Ctx:     wideContext(j.Ctx),
			Budgets: wideList(j.Budgets),
			Term:    copyOfTerm(j.Term),
			Type:    wideList(j.Type),
			From:    wideList(j.From),
		}
	}
	return wide
}

// dump writes down a value with all that is within, the spare room of slices included.
func dump(v reflect.Value) string {
	var parts []string
	switch v.Kind() {
	case reflect.Struct:
		for i := range v.NumField() {
			parts = append(parts, dump(v.Field(i)))
		}
	case reflect.Slice:
		parts = append(parts, strconv.Itoa(v.Len()))
		for i := range v.Cap() {
			parts = append(parts, dump(v.Slice(0, v.Cap()).Index(i)))
		}
	default:
		return fmt.Sprint(v)
	}
	return "(" + strings.Join(parts, " ") + ")"
}

// span is memory from a first address up to, but not with, an end.
type span struct{ first, end uintptr }

// memoryOf returns the memory of all slices within a value, their spare room included.
func memoryOf(v reflect.Value) []span {
	var all []span
	switch v.Kind() {
	case reflect.Struct:
		for i := range v.NumField() {
			all = append(all, memoryOf(v.Field(i))...)
		}
	case reflect.Slice:
		if v.Cap() > 0 {
			all = append(all, span{v.Pointer(), v.Pointer() + uintptr(v.Cap())*v.Type().Elem().Size()})
		}
		for i := range v.Cap() {
			all = append(all, memoryOf(v.Slice(0, v.Cap()).Index(i))...)
		}
	}
	return all
}

// ownsMemory reports whether no two slices within the result share memory, and none shares any with an argument.
func ownsMemory(result any, args ...any) bool {
	all := memoryOf(reflect.ValueOf(result))
	apart := func(a, b span) bool { return a.end <= b.first || b.end <= a.first }
	slices.SortFunc(all, func(a, b span) int { return int(int64(a.first) - int64(b.first)) })
	for i := 1; i < len(all); i++ {
		if !apart(all[i-1], all[i]) {
			return false
		}
	}
	for _, arg := range args {
		for _, a := range memoryOf(reflect.ValueOf(arg)) {
			for _, r := range all {
				if !apart(a, r) {
					return false
				}
			}
		}
	}
	return true
}
