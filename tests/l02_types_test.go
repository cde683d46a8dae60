package tests

import (
	"slices"
	"strconv"
	"strings"
	"testing"

	"loop.example/g03111/impl"
)

// eachCodes calls f with all lists of at most n codes, unknown ones among them.
func eachCodes(n int, f func(ty []int)) {
	var extend func(ty []int)
	extend = func(ty []int) {
		f(ty)
		if len(ty) == n {
			return
		}
		for code := -1; code <= 37; code++ {
			extend(append(ty, code))
		}
	}
	extend(make([]int, 0, n))
}

func TestTypesOfEachListOfCodes(t *testing.T) {
	systems := []impl.System{impl.LevelSystem(1), impl.CountSystem(1), impl.BoundSystem(4)}
	known := map[string]typeSample{}
	for _, x := range smallTypes() {
		known[strings.Join(digitsOf(x.ty), " ")] = x
	}
	found := 0
	eachCodes(3, func(ty []int) {
		x, isWritten := known[strings.Join(digitsOf(ty), " ")]
		if isWritten {
			found++
		}
		for _, s := range systems {
			want := isWritten && !x.open && x.greatest < s.Size
			if impl.IsType(s, ty) != want {
				t.Fatalf("IsType(size %d, %v) is %v", s.Size, ty, !want)
			}
			if impl.IsData(s, ty) != (want && !x.arrow) {
				t.Fatalf("IsData(size %d, %v) is %v", s.Size, ty, !(want && !x.arrow))
			}
		}
		if got := impl.FormatType(ty); got != x.text {
			t.Fatalf("FormatType(%v) is %q", ty, got)
		}
		if got := impl.PartsOfType(ty); !slices.EqualFunc(got, x.parts, slices.Equal[[]int]) {
			t.Fatalf("PartsOfType(%v) is %v", ty, got)
		}
	})
	if found != 1+17+17*17+19 {
		t.Errorf("%d types have at most three codes", found)
	}
}

func digitsOf(l []int) []string {
	var digits []string
	for _, n := range l {
		digits = append(digits, strconv.Itoa(n))
	}
	return digits
}

func TestTypesOfFourCodes(t *testing.T) {
	s := impl.BoundSystem(4)
	for _, x := range typesOf(4) {
		want := !x.open && x.greatest < s.Size
		if impl.IsType(s, x.ty) != want || impl.IsData(s, x.ty) != (want && !x.arrow) {
			t.Errorf("IsType or IsData of %v is wrong", x.ty)
		}
		if got := impl.FormatType(x.ty); got != x.text {
			t.Errorf("FormatType(%v) is %q", x.ty, got)
		}
		if got := impl.PartsOfType(x.ty); !slices.EqualFunc(got, x.parts, slices.Equal[[]int]) {
			t.Errorf("PartsOfType(%v) is %v", x.ty, got)
		}
		if got, ok := impl.ParseType(x.text); !ok || !slices.Equal(got, x.ty) {
			t.Errorf("ParseType(%q) is %v, %v", x.text, got, ok)
		}
	}
}

func TestTypesWithGradesOfEachSystem(t *testing.T) {
	systems := goodSystems()
	systems["level 15"] = impl.LevelSystem(15)
	for name, s := range systems {
		for g := range 16 {
			want := g < s.Size
			if impl.IsType(s, []int{impl.TyBox + g, 0}) != want || impl.IsData(s, []int{impl.TyBox + g, 0}) != want {
				t.Errorf("%s: a box with %d is wrong", name, g)
			}
			if impl.IsType(s, []int{impl.TyArrow + g, 0, 0}) != want || impl.IsData(s, []int{impl.TyArrow + g, 0, 0}) {
				t.Errorf("%s: an arrow with %d is wrong", name, g)
			}
			if impl.IsType(s, []int{1, 0, 2, 0, impl.TyBox + g, 0}) != want {
				t.Errorf("%s: a box with %d within others is wrong", name, g)
			}
		}
	}
}

func TestTypesOfNoSystem(t *testing.T) {
	for name, s := range badSystems() {
		for _, ty := range [][]int{{0}, {1, 0, 0}, {19, 0}, {4, 0, 0}, {}} {
			if impl.IsType(s, ty) || impl.IsData(s, ty) {
				t.Errorf("%s: %v is a type", name, ty)
			}
		}
	}
}

func TestTypesOfMostCodes(t *testing.T) {
	s := impl.BoundSystem(2)
	for text, ty := range longTypes(40) {
		closed, arrows := !strings.Contains(text, "?"), strings.Contains(text, ">")
		if len(ty) != impl.MaxType || impl.IsType(s, ty) != closed || impl.IsData(s, ty) != (closed && !arrows) {
			t.Errorf("IsType or IsData of %s is wrong", text)
		}
		if got := impl.FormatType(ty); got != text {
			t.Errorf("FormatType of %s is %s", text, got)
		}
		if got, ok := impl.ParseType(text); !ok || !slices.Equal(got, ty) {
			t.Errorf("ParseType(%q) is %v, %v", text, got, ok)
		}
		if parts := impl.PartsOfType(ty); !slices.Equal(slices.Concat(parts...), ty[1:]) {
			t.Errorf("PartsOfType of %s is %v", text, parts)
		}
	}
}

func TestPartsOfLongTypes(t *testing.T) {
	for text, want := range map[string][]string{
		"n":                          nil,
		"*!1.n+nn":                   {"!1.n", "+nn"},
		"+*nnn":                      {"*nn", "n"},
		">15.>?.nn*n!0.n":            {">?.nn", "*n!0.n"},
		"!?.>0.nn":                   {">0.nn"},
		"!3.!4.n":                    {"!4.n"},
		"**nn*nn":                    {"*nn", "*nn"},
		"+" + fullType(5) + "n":      {fullType(5), "n"},
		"+n" + fullType(5):           {"n", fullType(5)},
		">1." + fullType(4) + "!2.n": {fullType(4), "!2.n"},
	} {
		ty, ok := impl.ParseType(text)
		var got []string
		for _, part := range impl.PartsOfType(ty) {
			got = append(got, impl.FormatType(part))
		}
		if !ok || !slices.Equal(got, want) {
			t.Errorf("the parts of %s are %v", text, got)
		}
	}
}

// fullType is a text with pairs as deep as told.
func fullType(depth int) string {
	if depth == 1 {
		return "n"
	}
	return "*" + fullType(depth-1) + fullType(depth-1)
}

func TestNoTypes(t *testing.T) {
	s := impl.LevelSystem(15)
	for name, ty := range badTypes() {
		if impl.IsType(s, ty) || impl.IsData(s, ty) {
			t.Errorf("%s: it is a type", name)
		}
		if parts := impl.PartsOfType(ty); len(parts) > 0 {
			t.Errorf("%s: the parts are %v", name, parts)
		}
		if text := impl.FormatType(ty); text != "" {
			t.Errorf("%s: the text is %q", name, text)
		}
	}
}

// TestParseTypeOfEachText looks at all texts of at most four of the bytes that texts of types have, and some more.
func TestParseTypeOfEachText(t *testing.T) {
	known := map[string][]int{}
	for _, x := range smallTypes() {
		known[x.text] = x.ty
	}
	var extend func(text string)
	extend = func(text string) {
		want, isText := known[text]
		if got, ok := impl.ParseType(text); ok != isText || !slices.Equal(got, want) {
			t.Fatalf("ParseType(%q) is %v, %v", text, got, ok)
		}
		if len(text) == 4 {
			return
		}
		for _, c := range "n*+>!.?0156 -" {
			extend(text + string(c))
		}
	}
	extend("")
}

func TestParseTypeOfOtherTexts(t *testing.T) {
	for _, text := range []string{
		" n", "n ", "n\n", "\tn", "n\x00", "n\xff", "N", "nn", "x", "(n)", "!1.n)", "!1n", "!.n", "!n", "!1..n", "! 1.n",
		"!1 .n", "!1. n", "!+1.n", "!-1.n", "!01.n", "!00.n", "!16.n", "!99.n", "!0x1.n", "!1_0.n", "!\xd9\xa1.n",
		"!18446744073709551617.n", "!" + strings.Repeat("9", 100000) + ".n", "!" + strings.Repeat("0", 100000) + "1.n",
		"!??.n", "!?1.n", "!1?.n", "!*.n", "*n", "*n,n", "*n n", "+n", ">1.n", ">1.n.n", ">n.n", ">1,n,n", ">?.n", "!?.",
		"!", ">", "*", "+", ".", "?", "1", "!1.", ">16.nn", ">-1.nn", ">01.nn",
		strings.Repeat("*", 1000000), strings.Repeat("!1.", 1000000) + "n", strings.Repeat("n", 1000000),
		strings.Repeat("!1.", 40) + "n", strings.Repeat("*n", 20) + "n", strings.Repeat("+", 20) + strings.Repeat("n", 21),
	} {
		if got, ok := impl.ParseType(text); ok || len(got) > 0 {
			t.Errorf("ParseType(%.50q) is %v, %v", text, got, ok)
		}
	}
	for text := range longTypes(42) {
		if got, ok := impl.ParseType(text); ok || len(got) > 0 {
			t.Errorf("ParseType(%q) is %v, %v", text, got, ok)
		}
	}
}

func TestFunctionsOfTypesChangeNoArgument(t *testing.T) {
	ty := []int{4, 1, 0, 0, 21, 0}
	wide := append(slices.Clone(ty), -9)[:len(ty)]
	kept := func() bool { return slices.Equal(wide, ty) && wide[:len(ty)+1][len(ty)] == -9 }
	unchanged(t, "IsType", impl.BoundSystem(2), func(s impl.System) { impl.IsType(s, wide) })
	unchanged(t, "IsData", impl.BoundSystem(2), func(s impl.System) { impl.IsData(s, wide) })
	impl.FormatType(wide)
	parts := impl.PartsOfType(wide)
	if !kept() {
		t.Error("an argument is changed")
	}
	for _, part := range parts {
		part = part[:cap(part)]
		for i := range part {
			part[i] = 99
		}
	}
	if !kept() {
		t.Error("PartsOfType returns memory of its argument")
	}
	parts = impl.PartsOfType(wide)
	for i := range parts[0][:cap(parts[0])] {
		parts[0][:cap(parts[0])][i] = 99
	}
	if !slices.Equal(parts[1], []int{21, 0}) {
		t.Error("PartsOfType returns memory that is shared within")
	}
	first, _ := impl.ParseType("*nn")
	first[0] = 99
	if second, _ := impl.ParseType("*nn"); second[0] != 1 {
		t.Error("ParseType keeps what it returned")
	}
}
