package tests

import (
	"regexp"
	"slices"
	"strings"
	"testing"

	"loop.example/g03111/impl"
)

var (
	arrowText = regexp.MustCompile(`>(\d+|\?)\.`)
	boxText   = regexp.MustCompile(`!(\d+|\?)\.`)
)

// boxedText and plainText put texts of types into the other languages.
func boxedText(text string) string { return arrowText.ReplaceAllString(text, ">1.!$1.") }

func plainText(text string) string {
	return arrowText.ReplaceAllString(boxText.ReplaceAllString(text, ""), ">1.")
}

// slowBoxType takes a written type, part by part; what it returns may be too long.
func slowBoxType(ty []int) []int {
	switch {
	case len(ty) == 0 || ty[0] == 0:
		return ty
	case ty[0] == 36 || ty[0] >= 19 && ty[0] < 35:
		return slices.Concat(ty[:1], slowBoxType(ty[1:]))
	}
	first, second := slowParts(ty)
	codes := []int{4, ty[0] + 16}
	switch {
	case ty[0] < 3:
		codes = ty[:1]
	case ty[0] == 35:
		codes = []int{4, 36}
	}
	return slices.Concat(codes, slowBoxType(first), slowBoxType(second))
}

func slowForgetType(ty []int) []int {
	switch {
	case len(ty) == 0 || ty[0] == 0:
		return ty
	case ty[0] == 36 || ty[0] >= 19 && ty[0] < 35:
		return slowForgetType(ty[1:])
	}
	code := ty[0]
	if code >= 3 {
		code = 4
	}
	first, second := slowParts(ty)
	return slices.Concat([]int{code}, slowForgetType(first), slowForgetType(second))
}

// slowTranslator translates terms with names in place of indices, so that no index is raised, and with types that are
// found anew where they matter.
type slowTranslator struct {
	namer
	s      impl.System
	moveTy func(ty []int) []int
	form   func(x *slowTranslator, ctx [][]int, t impl.Term, moved namedTerm) namedTerm
}

func slowBoxer(s impl.System) *slowTranslator {
	return &slowTranslator{s: s, moveTy: slowBoxType, form: (*slowTranslator).boxForm}
}

func slowForgetter(s impl.System) *slowTranslator {
	return &slowTranslator{s: s, moveTy: slowForgetType, form: (*slowTranslator).plainForm}
}

func (x *slowTranslator) move(ctx [][]int, env []int, t impl.Term) namedTerm {
	moved := namedTerm{op: t.Op, n: t.N, ty: x.moveTy(t.Type)}
	if t.Op == impl.TmVar {
		moved.n, moved.name = 0, env[t.N]
	}
	for k, kid := range t.Kids {
		names := x.fresh(rows[t.Op].adds[k])
		moved.added = append(moved.added, names)
		inKid := slices.Concat(slowAdded(x.s, ctx, t, k), ctx)
		moved.kids = append(moved.kids, x.move(inKid, slices.Concat(names, env), kid))
	}
	return x.form(x, ctx, t, moved)
}

func (x *slowTranslator) boxForm(ctx [][]int, t impl.Term, moved namedTerm) namedTerm {
	switch t.Op {
	case impl.TmFun:
		box := x.fresh(1)
		open := namedTerm{op: impl.TmOpen, n: 1, added: [][]int{nil, moved.added[0]}}
		open.kids = []namedTerm{{op: impl.TmVar, name: box[0]}, moved.kids[0]}
		ty := slices.Concat([]int{19 + t.N}, moved.ty)
		return namedTerm{op: impl.TmFun, n: 1, ty: ty, added: [][]int{box}, kids: []namedTerm{open}}
	case impl.TmApp:
		g := slowFind(x.s, ctx, t.Kids[0]).ty[0] - 3
		moved.kids[1] = namedTerm{op: impl.TmBox, n: g, added: [][]int{nil}, kids: []namedTerm{moved.kids[1]}}
	}
	return moved
}

func (x *slowTranslator) plainForm(ctx [][]int, t impl.Term, moved namedTerm) namedTerm {
	switch t.Op {
	case impl.TmBox:
		return moved.kids[0]
	case impl.TmOpen:
		ty := slowForgetType(slowFind(x.s, ctx, t.Kids[0]).ty)
		function := namedTerm{op: impl.TmFun, n: 1, ty: ty, added: moved.added[1:], kids: moved.kids[1:]}
		return namedTerm{op: impl.TmApp, added: [][]int{nil, nil}, kids: []namedTerm{function, moved.kids[0]}}
	}
	if rows[t.Op].graded {
		moved.n = 1
	}
	return moved
}

// text takes a term that has a type in the context; it returns the text of the translation, or "fails".
func (x *slowTranslator) text(ctx [][]int, t impl.Term) string {
	root := x.fresh(len(ctx))
	moved := x.move(ctx, root, t).unname(root)
	if sizeOf(moved) > 400 || longestType(moved) > 40 {
		return "fails"
	}
	return textOf(moved)
}

// longestType returns how many codes the longest Type within a term has.
func longestType(t impl.Term) int {
	longest := len(t.Type)
	for _, kid := range t.Kids {
		longest = max(longest, longestType(kid))
	}
	return longest
}

// boxedTerm and plainTerm ask the program, and write the result down.
func boxedTerm(t *testing.T, s impl.System, ctx [][]int, x impl.Term) string {
	t.Helper()
	y, ok := impl.BoxTerm(s, ctx, x)
	return termText(t, "BoxTerm", y, ok)
}

func plainTerm(t *testing.T, s impl.System, ctx [][]int, x impl.Term) string {
	t.Helper()
	y, ok := impl.ForgetTerm(s, ctx, x)
	return termText(t, "ForgetTerm", y, ok)
}

// translatedContext takes a context of which each type has a translation.
func translatedContext(t *testing.T, translate func(ty []int) []int, ctx [][]int) [][]int {
	t.Helper()
	var moved [][]int
	for _, ty := range ctx {
		m := translate(ty)
		if len(m) == 0 {
			t.Fatalf("%s has no translation", typeText(ty))
		}
		moved = append(moved, m)
	}
	return moved
}

// untyped is a system in which nothing but the types counts: all its grades are below 1.
func untyped() impl.System { return chain(0, 1) }

// checkBoxedTyping looks for the type and the needs of what BoxTerm returned.
func checkBoxedTyping(t *testing.T, s impl.System, ctx [][]int, x impl.Term, text string) {
	t.Helper()
	before := slowFind(s, ctx, x)
	after := found(t, s, translatedContext(t, impl.BoxType, ctx), parsed(t, text))
	want := finding{ty: slowBoxType(before.ty), needs: before.needs}
	if after.String() != want.String() {
		t.Errorf("BoxTerm of %s is %s, for which TypeOf is %s, not %s", textOf(x), text, after, want)
	}
}

// checkPlainTyping looks for the type of what ForgetTerm returned.
func checkPlainTyping(t *testing.T, s impl.System, ctx [][]int, x impl.Term, text string) {
	t.Helper()
	before := slowFind(s, ctx, x)
	after := found(t, untyped(), translatedContext(t, impl.ForgetType, ctx), parsed(t, text))
	if after.fault != impl.FaultNone || !slices.Equal(after.ty, slowForgetType(before.ty)) {
		t.Errorf("ForgetTerm of %s is %s, for which TypeOf is %s, not %s", textOf(x), text, after, typeText(slowForgetType(before.ty)))
	}
}

// translationSystems are systems of all kinds, counts, bounds, levels and products among them.
func translationSystems() []string {
	return append(viewedSystems(), "bound 2*bound 2", "level 1*count 2")
}

// arrowsAndBoxes is the text of a type with so many arrows and boxes; it has 2 * arrows + boxes + 1 codes.
func arrowsAndBoxes(arrows, boxes int) string {
	return strings.Repeat("!1.", boxes) + strings.Repeat(">0.n", arrows) + "n"
}
