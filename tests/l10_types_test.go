package tests

import (
	"math/rand"
	"reflect"
	"slices"
	"strings"
	"testing"

	"loop.example/g03111/impl"
)

func TestTranslateTypes(t *testing.T) {
	for _, c := range []struct{ ty, boxed, plain string }{
		// The chapter's own, and those that the stage test has.
		{">2.nn", ">1.!2.nn", ">1.nn"},
		{">2.!0.nn", ">1.!2.!0.nn", ">1.nn"},
		{"n", "n", "n"},
		{"*nn", "*nn", "*nn"},
		{"+nn", "+nn", "+nn"},
		{"*+nnn", "*+nnn", "*+nnn"},
		{"+n*nn", "+n*nn", "+n*nn"},
		// Grades 0, 1 and others, up to the greatest.
		{">0.nn", ">1.!0.nn", ">1.nn"},
		{">1.nn", ">1.!1.nn", ">1.nn"},
		{">15.nn", ">1.!15.nn", ">1.nn"},
		{"!0.n", "!0.n", "n"},
		{"!1.n", "!1.n", "n"},
		{"!2.n", "!2.n", "n"},
		{"!15.n", "!15.n", "n"},
		// What is open.
		{">?.nn", ">1.!?.nn", ">1.nn"},
		{"!?.n", "!?.n", "n"},
		{">?.!?.n!?.n", ">1.!?.!?.n!?.n", ">1.nn"},
		{"!?.>?.nn", "!?.>1.!?.nn", ">1.nn"},
		{">?.>2.nn>?.nn", ">1.!?.>1.!2.nn>1.!?.nn", ">1.>1.nn>1.nn"},
		// Arrows within arrows, on the left, on the right and on both sides.
		{">2.>3.nnn", ">1.!2.>1.!3.nnn", ">1.>1.nnn"},
		{">2.n>3.nn", ">1.!2.n>1.!3.nn", ">1.n>1.nn"},
		{">2.>3.nn>0.nn", ">1.!2.>1.!3.nn>1.!0.nn", ">1.>1.nn>1.nn"},
		{">2.>3.>4.nnn>5.n>6.nn", ">1.!2.>1.!3.>1.!4.nnn>1.!5.n>1.!6.nn", ">1.>1.>1.nnn>1.n>1.nn"},
		// Arrows and boxes within all other types, and boxes within boxes.
		{"*>2.nn>0.nn", "*>1.!2.nn>1.!0.nn", "*>1.nn>1.nn"},
		{"+n>0.nn", "+n>1.!0.nn", "+n>1.nn"},
		{"+>0.nnn", "+>1.!0.nnn", "+>1.nnn"},
		{"!3.>0.nn", "!3.>1.!0.nn", ">1.nn"},
		{"!3.!2.!1.n", "!3.!2.!1.n", "n"},
		{"!3.*!2.n!0.n", "!3.*!2.n!0.n", "*nn"},
		{"+!2.n!0.+!1.nn", "+!2.n!0.+!1.nn", "+n+nn"},
		{">2.!3.n!4.n", ">1.!2.!3.n!4.n", ">1.nn"},
		{">2.n!4.>0.nn", ">1.!2.n!4.>1.!0.nn", ">1.n>1.nn"},
	} {
		ty := parsedType(t, c.ty)
		if got := typeText(impl.BoxType(ty)); got != c.boxed {
			t.Errorf("BoxType of %s is %s, not %s", c.ty, got, c.boxed)
		}
		if got := typeText(impl.ForgetType(ty)); got != c.plain {
			t.Errorf("ForgetType of %s is %s, not %s", c.ty, got, c.plain)
		}
		checkTypes(t, ty)
	}
}

// checkTypes holds what the program returns for a written type against the ways of the tests.
func checkTypes(t *testing.T, ty []int) (isBoxed bool) {
	t.Helper()
	boxed, plain := slowBoxType(ty), slowForgetType(ty)
	if typeText(boxed) != boxedText(typeText(ty)) || typeText(plain) != plainText(typeText(ty)) {
		t.Fatalf("the ways of the tests differ for %s: %s, %s", typeText(ty), typeText(boxed), typeText(plain))
	}
	isBoxed = len(boxed) <= 40
	if !isBoxed {
		boxed = nil
	}
	if got := impl.BoxType(ty); !slices.Equal(got, boxed) {
		t.Fatalf("BoxType of %s is %v, not %v", typeText(ty), got, boxed)
	}
	if got := impl.ForgetType(ty); !slices.Equal(got, plain) {
		t.Fatalf("ForgetType of %s is %v, not %v", typeText(ty), got, plain)
	}
	// What is translated has nothing to be forgotten but boxes, and what is forgotten is gone.
	if got := impl.ForgetType(boxed); isBoxed && !slices.Equal(got, plain) {
		t.Fatalf("ForgetType of %s is %v, not %v", typeText(boxed), got, plain)
	}
	if got := impl.ForgetType(plain); !slices.Equal(got, plain) {
		t.Fatalf("ForgetType of %s is %v", typeText(plain), got)
	}
	return isBoxed
}

func TestTranslateSmallTypes(t *testing.T) {
	for _, x := range smallTypes() {
		if !checkTypes(t, x.ty) {
			t.Fatalf("%s becomes too long", x.text)
		}
	}
}

// TestTranslateMadeTypes has types of all lengths, of which some become too long and some do not.
func TestTranslateMadeTypes(t *testing.T) {
	r := rand.New(rand.NewSource(10))
	boxed, long := 0, 0
	for i := range 12000 {
		ty := madeType(r, 1+i%40, 16, 4)
		for k, code := range ty {
			switch {
			case code >= 3 && r.Intn(5) == 0:
				ty[k] = 35 + code/19
			case (code == 1 || code == 2) && r.Intn(2) == 0:
				ty[k] = 3 + r.Intn(16)
			}
		}
		if checkTypes(t, ty) {
			boxed++
		} else {
			long++
		}
	}
	if boxed < 9000 || long < 800 {
		t.Errorf("only %d types could be boxed, and %d could not", boxed, long)
	}
}

// TestBoxTypeToMostCodes has results of just as many codes as there may be, and of one more, for any number of arrows.
func TestBoxTypeToMostCodes(t *testing.T) {
	for arrows := range 20 {
		for boxes := range 40 {
			text := arrowsAndBoxes(arrows, boxes)
			codes := 2*arrows + boxes + 1
			for _, open := range []string{"0", "?"} {
				text := strings.ReplaceAll(text, ">0", ">"+open)
				for _, ty := range []string{text, strings.ReplaceAll(text, ">"+open+".n", ">"+open+".n!1.")} {
					x, ok := impl.ParseType(ty)
					if !ok {
						continue
					}
					want := ""
					if len(x)+arrows <= 40 {
						want = boxedText(ty)
					}
					if got := typeText(impl.BoxType(x)); got != want {
						t.Errorf("BoxType of %s, which has %d codes, is %s", ty, len(x), got)
					}
					if got := typeText(impl.ForgetType(x)); got != nested(arrows, ">1.n|", "n") {
						t.Errorf("ForgetType of %s is %s", ty, got)
					}
				}
			}
			if x, ok := impl.ParseType(text); ok != (codes <= 40) || ok && len(x) != codes {
				t.Fatalf("%s has %d codes, not %d", text, len(x), codes)
			}
		}
	}
	for _, c := range []struct {
		ty    string
		codes int
	}{
		{longType(40), 40},
		{longType(39), 39},
		{">1." + longType(37) + "n", 40},
		{">1." + longType(38) + "n", 0},
		{">1.n" + longType(37), 40},
		{">1.n" + longType(38), 0},
		{"!1." + power(20), 40},
		{nested(13, ">2.n|", "n"), 40},
		{nested(13, ">2.|n", "n"), 40},
		{nested(13, ">2.|n", "!2.n"), 0},
		{"*" + nested(6, ">2.|n", "n") + nested(6, ">2.n|", "n"), 39},
		{"*" + nested(6, ">2.|n", "n") + nested(6, ">2.n|", "!2.n"), 40},
		{"*" + nested(6, ">2.|n", "!2.n") + nested(6, ">2.n|", "!2.n"), 0},
		{nested(19, ">2.|n", "n"), 0},
		{nested(19, ">2.|n", "!2.n"), 0},
	} {
		ty := parsedType(t, c.ty)
		if got := impl.BoxType(ty); len(got) != c.codes {
			t.Errorf("BoxType of %s has %d codes, not %d", c.ty, len(got), c.codes)
		}
		checkTypes(t, ty)
	}
}

func TestTranslateNoTypes(t *testing.T) {
	all := badTypes()
	// Lists that only a part that is left out, or one that is put in, would make types.
	for reason, ty := range map[string][]int{
		"a box behind":            {0, 20},
		"an open box behind":      {0, 36},
		"boxes alone":             {20, 36},
		"a box of two":            {20, 0, 0},
		"an arrow to nothing":     {4, 0},
		"an arrow of boxes":       {4, 20, 20},
		"an open arrow":           {35, 0},
		"two arrows of three":     {4, 35, 0, 0},
		"41 codes, boxes":         append(slices.Repeat([]int{36}, 40), 0),
		"41 codes, boxes ahead":   append(slices.Repeat([]int{34}, 38), 1, 0, 0),
		"a thousand boxes":        append(slices.Repeat([]int{19}, 1000), 0),
		"a million boxes":         append(slices.Repeat([]int{36}, 1000000), 0),
		"a million open arrows":   slices.Repeat([]int{35}, 1000000),
		"unknown -2":              {-2},
		"unknown behind a box":    {20, 37},
		"a box behind an arrow":   {4, 0, 0, 20},
		"the arrow -1":            {-1, 0, 0},
		"far beyond, even, n":     {1 << 40, 0},
		"far beyond, odd, n n":    {1<<40 + 1, 0, 0},
		"an arrow beyond, inside": {1, 37, 0, 0, 0},
	} {
		all[reason] = ty
	}
	for reason, ty := range all {
		if got := impl.BoxType(ty); len(got) > 0 {
			t.Errorf("%s: BoxType is %v", reason, got)
		}
		if got := impl.ForgetType(ty); len(got) > 0 {
			t.Errorf("%s: ForgetType is %v", reason, got)
		}
	}
}

// TestTranslateListsOfCodes has all short lists of codes, and takes those that are no types for what they are.
func TestTranslateListsOfCodes(t *testing.T) {
	known := map[string]bool{}
	for _, x := range smallTypes() {
		known[strings.Join(digitsOf(x.ty), " ")] = true
	}
	codes := []int{-1, 0, 1, 2, 3, 4, 18, 19, 20, 34, 35, 36, 37, 38}
	for length := range 5 {
		allLists(len(codes), length, func(l []int) {
			var ty []int
			for _, k := range l {
				ty = append(ty, codes[k])
			}
			if known[strings.Join(digitsOf(ty), " ")] {
				checkTypes(t, ty)
			} else if len(impl.BoxType(ty))+len(impl.ForgetType(ty)) > 0 {
				t.Fatalf("%v is %v, or %v", ty, impl.BoxType(ty), impl.ForgetType(ty))
			}
		})
	}
}

func TestTranslatedTypesOwnTheirMemory(t *testing.T) {
	for _, text := range []string{"n", ">2.nn", "!2.n", "*!1.n>0.nn", longType(40), nested(13, ">2.n|", "n"), nested(19, ">2.n|", "n")} {
		ty := parsedType(t, text)
		wide := wideList(ty)
		before := dump(reflect.ValueOf(wide))
		boxed, plain := impl.BoxType(wide), impl.ForgetType(wide)
		if dump(reflect.ValueOf(wide)) != before {
			t.Errorf("%s is changed", text)
		}
		if !ownsMemory([][]int{boxed, plain}, wide) {
			t.Errorf("what is returned for %s shares memory", text)
		}
		for _, l := range [][]int{boxed, plain} {
			for i := range l[:cap(l)] {
				l[:cap(l)][i] = -5
			}
		}
		if !keptList(wide, ty) {
			t.Errorf("%s is changed", text)
		}
		checkTypes(t, ty)
	}
	// A part of a longer list is translated as a list of its own, and the rest of that is left alone.
	whole := []int{1, 5, 0, 0, 21, 0}
	if typeText(impl.BoxType(whole[1:4])) != ">1.!2.nn" || typeText(impl.ForgetType(whole[4:6])) != "n" || !slices.Equal(whole, []int{1, 5, 0, 0, 21, 0}) {
		t.Errorf("the parts of a list are not translated by themselves: %v", whole)
	}
}
