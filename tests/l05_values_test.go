package tests

import (
	"math/rand"
	"slices"
	"strconv"
	"strings"
	"testing"

	"loop.example/g03111/impl"
)

// farPlaces are places that no type has, of which all values can be listed.
var farPlaces = []int{-1 << 63, -1 << 32, -301, -3, -2, -1, 301, 303, 1000, 1 << 32, 1<<63 - 1}

// checkPlaces holds all that is asked of a type with at most MaxValues values against the texts of its values.
func checkPlaces(t *testing.T, s impl.System, ty []int, want []string) {
	t.Helper()
	text := typeText(ty)
	if n := impl.CountValues(s, ty); n != len(want) {
		t.Errorf("CountValues of %s is %d, not %d", text, n, len(want))
	}
	for k, value := range want {
		got, ok := impl.ValueAt(s, ty, k)
		checkTerm(t, "ValueAt "+strconv.Itoa(k)+" of "+text, got, ok, value)
		v := parsed(t, value)
		if place := impl.PlaceOf(s, ty, v); place != k {
			t.Errorf("PlaceOf %s in %s is %d, not %d", value, text, place, k)
		}
		if !impl.IsValue(s, ty, v) {
			t.Errorf("%s is no value of %s", value, text)
		}
	}
	for _, k := range append([]int{len(want), len(want) + 1, 2 * len(want)}, farPlaces...) {
		got, ok := impl.ValueAt(s, ty, k)
		checkTerm(t, "ValueAt "+strconv.Itoa(k)+" of "+text, got, ok, "")
	}
}

// checkTooMany holds it against a type with more than MaxValues values, one of which is v.
func checkTooMany(t *testing.T, s impl.System, ty []int, v impl.Term) {
	t.Helper()
	text := typeText(ty)
	if n := impl.CountValues(s, ty); n != -1 {
		t.Errorf("CountValues of %s is %d", text, n)
	}
	for _, k := range append([]int{0, 1, 2, 298, 299, 300, 302, 304}, farPlaces...) {
		got, ok := impl.ValueAt(s, ty, k)
		checkTerm(t, "ValueAt "+strconv.Itoa(k)+" of "+text, got, ok, "")
	}
	if place := impl.PlaceOf(s, ty, v); place != -1 {
		t.Errorf("PlaceOf %s in %s is %d", textOf(v), text, place)
	}
	if !impl.IsValue(s, ty, v) {
		t.Errorf("%s is no value of %s", textOf(v), text)
	}
}

func TestValuesInTheirOrder(t *testing.T) {
	if impl.MaxValues != 300 {
		t.Errorf("MaxValues is %d", impl.MaxValues)
	}
	for _, c := range []struct{ system, ty, values string }{
		{"count 1", "n", "0 1 2"},
		{"count 1", "*nn", "pair(0,0) pair(0,1) pair(0,2) pair(1,0) pair(1,1) pair(1,2) pair(2,0) pair(2,1) pair(2,2)"},
		{"count 1", "+nn", "left:n(0) left:n(1) left:n(2) right:n(0) right:n(1) right:n(2)"},
		{"count 1", "+n!1.n", "left:!1.n(0) left:!1.n(1) left:!1.n(2) right:n(box:1(0)) right:n(box:1(1)) right:n(box:1(2))"},
		{"count 1", "+!2.n!0.n", "left:!0.n(box:2(0)) left:!0.n(box:2(1)) left:!0.n(box:2(2)) right:!2.n(box:0(0)) right:!2.n(box:0(1)) right:!2.n(box:0(2))"},
		{"bound 2", "!0.n", "box:0(0) box:0(1) box:0(2)"},
		{"bound 2", "!3.!1.n", "box:3(box:1(0)) box:3(box:1(1)) box:3(box:1(2))"},
		{"level 15", "!15.n", "box:15(0) box:15(1) box:15(2)"},
		{"count 1", "*n!1.n", "pair(0,box:1(0)) pair(0,box:1(1)) pair(0,box:1(2)) pair(1,box:1(0)) pair(1,box:1(1)) pair(1,box:1(2)) pair(2,box:1(0)) pair(2,box:1(1)) pair(2,box:1(2))"},
		{"count 1", "+n+nn", "left:+nn(0) left:+nn(1) left:+nn(2) right:n(left:n(0)) right:n(left:n(1)) right:n(left:n(2)) right:n(right:n(0)) right:n(right:n(1)) right:n(right:n(2))"},
		{"count 1", "++nnn", "left:n(left:n(0)) left:n(left:n(1)) left:n(left:n(2)) left:n(right:n(0)) left:n(right:n(1)) left:n(right:n(2)) right:+nn(0) right:+nn(1) right:+nn(2)"},
		{"count 1", "!2.+nn", "box:2(left:n(0)) box:2(left:n(1)) box:2(left:n(2)) box:2(right:n(0)) box:2(right:n(1)) box:2(right:n(2))"},
	} {
		ty := parsedType(t, c.ty)
		want := strings.Fields(c.values)
		if !slices.Equal(slowValues(ty), want) {
			t.Fatalf("the tests list other values of %s", c.ty)
		}
		checkPlaces(t, systemOf(t, c.system), ty, want)
	}
	// Parts of different sizes, which an order that takes the first part for the faster one, or the wrong size, mixes up.
	for _, c := range []struct {
		ty, value string
		place     int
	}{
		{"*+nnn", "pair(left:n(0),2)", 2},
		{"*+nnn", "pair(left:n(1),0)", 3},
		{"*+nnn", "pair(right:n(2),1)", 16},
		{"*n+nn", "pair(0,right:n(2))", 5},
		{"*n+nn", "pair(1,left:n(0))", 6},
		{"*n+nn", "pair(2,right:n(1))", 16},
		{"+*nnn", "right:*nn(0)", 9},
		{"+n*nn", "right:n(pair(0,0))", 3},
		{"+n*nn", "right:n(pair(2,2))", 11},
		{"**nn*nn", "pair(pair(0,1),pair(2,0))", 15},
		{"*!1.*nnn", "pair(box:1(pair(1,0)),2)", 11},
	} {
		s, ty := impl.CountSystem(1), parsedType(t, c.ty)
		got, ok := impl.ValueAt(s, ty, c.place)
		checkTerm(t, "ValueAt "+strconv.Itoa(c.place)+" of "+c.ty, got, ok, c.value)
		if place := impl.PlaceOf(s, ty, parsed(t, c.value)); place != c.place {
			t.Errorf("PlaceOf %s in %s is %d, not %d", c.value, c.ty, place, c.place)
		}
	}
}

func TestValuesOfAllSmallTypes(t *testing.T) {
	for _, s := range []impl.System{impl.LevelSystem(1), impl.CountSystem(1)} {
		for _, ty := range upTo(5, s.Size) {
			checkPlaces(t, s, ty, slowValues(ty))
		}
	}
	for name, s := range goodSystems() {
		for _, ty := range upTo(3, s.Size) {
			if impl.CountValues(s, ty) != slowCount(ty) {
				t.Errorf("%s: CountValues of %s is wrong", name, typeText(ty))
			}
			checkPlaces(t, s, ty, slowValues(ty))
		}
	}
}

// TestValuesAreOfOneTypeAlone holds each value against each type.
func TestValuesAreOfOneTypeAlone(t *testing.T) {
	s := impl.CountSystem(1)
	types := upTo(4, s.Size)
	for i, from := range types {
		for k, text := range slowValues(from) {
			v := parsed(t, text)
			for j, ty := range types {
				want := -1
				if i == j {
					want = k
				}
				if impl.IsValue(s, ty, v) != (i == j) || impl.PlaceOf(s, ty, v) != want {
					t.Fatalf("IsValue or PlaceOf %s in %s is wrong", text, typeText(ty))
				}
			}
			ty, needs, ok := impl.TypeOf(s, nil, v)
			if !ok || len(needs) > 0 || !slices.Equal(ty, from) || !impl.IsNormal(v) {
				t.Errorf("%s is no normal term of the type %s", text, typeText(from))
			}
		}
	}
}

func TestCountValuesUpToMost(t *testing.T) {
	s := impl.BoundSystem(2)
	most := sumOf(power(5), power(3), power(3), "n")
	// All counts are multiples of 3, so 303 is the least one that is too great.
	counts := map[string]int{
		power(5):                            243,
		sumOf(power(5), power(3), power(3)): 297,
		"*" + power(2) + sumOf(power(3), "n", "n"): 297,
		most:                                     300,
		sumOf("n", power(3), power(3), power(5)): 300,
		sumOf("!3.n", "!2."+power(3), "!0."+power(5), "!1."+power(3)): 300,
		"!1.!2." + most: 300,
		sumOf(power(5), power(3), power(3), "n", "n"):               303,
		sumOf("n", "n", power(3), power(3), power(5)):               303,
		"!1." + sumOf(power(5), power(3), power(3), "+nn"):          303,
		"*n" + sumOf(power(4), power(2), power(2), "n"):             306,
		"*" + sumOf(power(4), power(2), power(2), "n") + "n":        306,
		sumOf(power(4), power(4), power(4), power(4)):               324,
		"*" + sumOf(power(2), power(2)) + sumOf(power(2), power(2)): 324,
		"!2." + power(20):                                 3486784401,
		"*" + power(10) + power(10):                       3486784401,
		sumOf(power(10), power(10)):                       118098,
		strings.Repeat("+n", 19) + "n":                    60,
		strings.Repeat("+", 19) + strings.Repeat("n", 20): 60,
		// A part alone that has just as many as may be, or too many.
		"*n" + most:             900,
		"*" + most + "n":        900,
		"+n" + most:             303,
		"+" + most + "n":        303,
		"!2." + power(6):        729,
		"*n" + power(6):         2187,
		"*" + power(6) + "n":    2187,
		"+n" + power(6):         732,
		"+" + power(6) + "n":    732,
		"+n*n!1.+n" + power(12): 1594335,
	}
	for text, count := range counts {
		ty := parsedType(t, text)
		if n := slowCount(ty); n != count {
			t.Fatalf("the tests count %d values of %s", n, text)
		}
		if count <= 300 {
			checkPlaces(t, s, ty, slowValues(ty))
		} else {
			checkTooMany(t, s, ty, parsed(t, slowDefault(ty)))
		}
	}
}

// TestMadeTypes looks at types of all lengths up to the limit.
func TestMadeTypes(t *testing.T) {
	r := rand.New(rand.NewSource(5))
	few, many := 0, 0
	for i := range 1200 {
		s := []impl.System{impl.BoundSystem(2), impl.LevelSystem(5), askew}[i%3]
		ty := madeType(r, 1+i%40, s.Size, 3)
		if len(ty) != 1+i%40 || !impl.IsData(s, ty) {
			t.Fatalf("%v is no such type", ty)
		}
		v := madeValue(r, ty)
		if slowCount(ty) > 300 {
			many++
			checkTooMany(t, s, ty, v)
			continue
		}
		few++
		checkPlaces(t, s, ty, slowValues(ty))
		if place := impl.PlaceOf(s, ty, v); place != slowPlace(ty, v) || !impl.IsValue(s, ty, v) {
			t.Errorf("PlaceOf %s in %s is %d", textOf(v), typeText(ty), place)
		}
	}
	if few < 400 || many < 400 {
		t.Errorf("%d types had few values, and %d many", few, many)
	}
}

// TestTermsThatAreNearlyValues changes values at one place each. What comes out may be a value of the type again.
func TestTermsThatAreNearlyValues(t *testing.T) {
	s := impl.CountSystem(1)
	kept := 0
	for _, ty := range upTo(4, s.Size) {
		values := slowValues(ty)
		for k := 0; k < len(values); k += 2 {
			for _, v := range nearMisses(parsed(t, values[k])) {
				want := -1
				if slowIsValue(s.Size, ty, v) {
					want = slowPlace(ty, v)
					kept++
				}
				if impl.IsValue(s, ty, v) != (want >= 0) || impl.PlaceOf(s, ty, v) != want {
					t.Fatalf("IsValue or PlaceOf is wrong for %+v in %s", v, typeText(ty))
				}
			}
		}
	}
	if kept < 500 {
		t.Errorf("only %d changed terms were values", kept)
	}
	r := rand.New(rand.NewSource(6))
	for i := range 60 {
		ty := madeType(r, 10+i%31, s.Size, 3)
		few := slowCount(ty) <= 300
		for _, v := range nearMisses(madeValue(r, ty)) {
			is, want := slowIsValue(s.Size, ty, v), -1
			if is && few {
				want = slowPlace(ty, v)
			}
			if impl.IsValue(s, ty, v) != is || impl.PlaceOf(s, ty, v) != want {
				t.Fatalf("IsValue or PlaceOf is wrong for %+v in %s", v, typeText(ty))
			}
		}
	}
}

func TestTermsThatAreNoValues(t *testing.T) {
	s := impl.CountSystem(1)
	for _, c := range []struct{ ty, term string }{
		{"n", "x0"}, {"n", "add(1,1)"}, {"n", "if(0,1,2)"}, {"n", "app(fun:1:n(x0),1)"}, {"n", "open:1(box:1(0),x0)"},
		{"n", "split:1(pair(0,1),x0)"}, {"n", "case:1(left:n(0),x0,x0)"}, {"n", "box:1(0)"}, {"n", "left:n(0)"}, {"n", "fun:1:n(x0)"},
		{"*nn", "pair(x0,0)"}, {"*nn", "pair(0,x7)"}, {"*nn", "pair(add(0,0),0)"}, {"*nn", "pair(0,pair(0,0))"}, {"*nn", "0"},
		{"*nn", "pair(left:n(0),0)"}, {"*n!1.n", "pair(box:1(0),0)"}, {"*n!1.n", "pair(0,0)"}, {"*n!1.n", "pair(0,box:2(0))"},
		{"+n!1.n", "left:n(2)"}, {"+n!1.n", "left:!2.n(2)"}, {"+n!1.n", "left:!0.n(2)"}, {"+n!1.n", "left:+n!1.n(2)"},
		{"+n!1.n", "right:!1.n(box:1(2))"}, {"+n!1.n", "right:n(box:2(2))"}, {"+n!1.n", "right:n(2)"}, {"+n!1.n", "right:!1.n(2)"},
		{"+n!1.n", "left:!1.n(box:1(2))"}, {"+n!1.n", "left:!1.n(x0)"}, {"+n!1.n", "right:n(box:1(x0))"}, {"+n!1.n", "left:!?.n(2)"},
		{"+n!1.n", "left:!5.n(2)"}, {"+n!1.n", "left:>1.nn(2)"}, {"+n!1.n", "2"}, {"+n!1.n", "box:1(2)"},
		{"!1.n", "box:2(0)"}, {"!1.n", "box:0(0)"}, {"!1.n", "box:?(0)"}, {"!1.n", "box:5(0)"}, {"!1.n", "box:1(x0)"}, {"!1.n", "0"},
		{"!1.n", "box:1(box:1(0))"}, {"!1.!2.n", "box:2(box:1(0))"}, {"!1.!2.n", "box:1(0)"}, {"!0.n", "box:?(0)"}, {"!2.n", "box:?(0)"},
		{"!0.n", "box:0(open:1(box:1(0),x0))"},
	} {
		ty, v := parsedType(t, c.ty), parsed(t, c.term)
		if impl.IsValue(s, ty, v) || impl.PlaceOf(s, ty, v) != -1 {
			t.Errorf("%s is a value of %s at the place %d", c.term, c.ty, impl.PlaceOf(s, ty, v))
		}
	}
	for reason, bad := range badTerms() {
		for ty, v := range map[string]impl.Term{
			"n":      bad,
			"*nn":    leastTerm(impl.TmPair, numberTerm(0), bad),
			"+nn":    leastTerm(impl.TmRight, bad),
			"!1.n":   leastTerm(impl.TmBox, bad),
			"+n+nn":  bad,
			"!1.*nn": bad,
		} {
			if impl.IsValue(s, parsedType(t, ty), v) || impl.PlaceOf(s, parsedType(t, ty), v) != -1 {
				t.Errorf("%s: it is a value of %s", reason, ty)
			}
		}
	}
}

// failsForType reports which of the functions of data types does not fail for a type, whatever else it is handed.
func failsForType(s impl.System, ty []int) string {
	values := []impl.Term{numberTerm(0), numberTerm(2), {Op: -1}, endless(), leastTerm(impl.TmBox, numberTerm(0)),
		leastTerm(impl.TmPair, numberTerm(0), numberTerm(0)), leastTerm(impl.TmFun, numberTerm(0)), leastTerm(impl.TmFun, variableTerm(0)),
		{Op: impl.TmBox, N: -1, Kids: []impl.Term{numberTerm(0)}}, {Op: impl.TmBox, N: 4, Kids: []impl.Term{numberTerm(0)}}}
	if impl.CountValues(s, ty) != -1 {
		return "CountValues"
	}
	for _, v := range values {
		if impl.IsValue(s, ty, v) {
			return "IsValue"
		}
		if impl.PlaceOf(s, ty, v) != -1 {
			return "PlaceOf"
		}
	}
	for _, k := range append([]int{0, 1, 2, 3, 299, 300}, farPlaces...) {
		if v, ok := impl.ValueAt(s, ty, k); ok || !isZeroTerm(v) {
			return "ValueAt"
		}
	}
	return ""
}

func TestValuesOfWhatIsNoDataType(t *testing.T) {
	s := impl.BoundSystem(2)
	for name, bad := range badSystems() {
		for _, text := range []string{"n", "*nn", "+n!1.n", "!1.n", ">1.nn"} {
			ty := parsedType(t, text)
			if wrong := failsForType(bad, ty); wrong != "" {
				t.Errorf("%s: %s of %s is wrong", name, wrong, text)
			}
			got, ok := impl.DefaultTerm(bad, ty)
			checkTerm(t, name+": DefaultTerm of "+text, got, ok, "")
		}
	}
	bad := badTypes()
	for _, text := range []string{"!4.n", "!15.n", "*n!4.n", "+!5.nn", "!?.n", "*n!?.n", "+!?.nn", ">?.nn", ">4.nn", ">1.n!4.n", ">1.!?.nn", "!1.>?.nn"} {
		bad[text] = parsedType(t, text)
	}
	for reason, ty := range bad {
		if wrong := failsForType(s, ty); wrong != "" {
			t.Errorf("type %s: %s is wrong", reason, wrong)
		}
		got, ok := impl.DefaultTerm(s, ty)
		checkTerm(t, "DefaultTerm of the type "+reason, got, ok, "")
	}
	// A term that looks like a value of a type with an arrow in it, beside what it holds.
	for text, term := range map[string]string{
		"+n>1.nn":      "left:>1.nn(0)",
		"+>1.nnn":      "right:>1.nn(2)",
		"!1.+n>0.nn":   "box:1(left:>0.nn(1))",
		"*n+n>1.nn":    "pair(2,left:>1.nn(0))",
		"+n!1.>2.n*nn": "left:!1.>2.n*nn(0)",
		">1.nn":        "fun:1:n(0)",
		"+n>1.n+nn":    "right:n(fun:1:n(left:n(0)))",
	} {
		ty, v := parsedType(t, text), parsed(t, term)
		if impl.IsValue(s, ty, v) || impl.PlaceOf(s, ty, v) != -1 {
			t.Errorf("%s is a value of %s", term, text)
		}
	}
	for _, text := range []string{">1.nn", ">0.nn", "*n>1.nn", "*>1.nnn", "+n>3.nn", "+>1.nnn", "!1.>1.nn", ">1.n>1.nn", "*" + power(6) + ">1.nn"} {
		if wrong := failsForType(s, parsedType(t, text)); wrong != "" {
			t.Errorf("%s: %s is wrong", text, wrong)
		}
	}
}

func TestDefaultTerm(t *testing.T) {
	s := impl.BoundSystem(2)
	for text, want := range map[string]string{
		"n":                        "0",
		"*n!2.n":                   "pair(0,box:2(0))",
		"**nn+n!1.n":               "pair(pair(0,0),left:!1.n(0))",
		"+n!1.n":                   "left:!1.n(0)",
		"+!1.nn":                   "left:n(box:1(0))",
		"+*nn+nn":                  "left:+nn(pair(0,0))",
		"+>1.nnn":                  "left:n(fun:1:n(0))",
		"+n>1.nn":                  "left:>1.nn(0)",
		">1.nn":                    "fun:1:n(0)",
		">1.n*nn":                  "fun:1:n(pair(0,0))",
		">0.*n!3.n!2.n":            "fun:0:*n!3.n(box:2(0))",
		">3.>2.nn!1.n":             "fun:3:>2.nn(box:1(0))",
		">2.n>1.+nn!0.n":           "fun:2:n(fun:1:+nn(box:0(0)))",
		">1.n+n!1.n":               "fun:1:n(left:!1.n(0))",
		">1.+n!1.nn":               "fun:1:+n!1.n(0)",
		">1.+nn+>1.nn!2.n":         "fun:1:+nn(left:!2.n(fun:1:n(0)))",
		"!0.n":                     "box:0(0)",
		"!3.!0.>0.nn":              "box:3(box:0(fun:0:n(0)))",
		"*>1.nn>2.nn":              "pair(fun:1:n(0),fun:2:n(0))",
		"*>1.n+nn!1.>0.n*nn":       "pair(fun:1:n(left:n(0)),box:1(fun:0:n(pair(0,0))))",
		"++n+nn>1.nn":              "left:>1.nn(left:+nn(0))",
		"!1.+*nn>0.nn":             "box:1(left:>0.nn(pair(0,0)))",
		longType(40):               strings.Repeat("box:1(", 39) + "0" + strings.Repeat(")", 39),
		power(20):                  strings.Repeat("pair(0,", 19) + "0" + strings.Repeat(")", 19),
		"+n" + power(19):           "left:" + power(19) + "(0)",
		"+" + power(19) + "n":      "left:n(" + strings.Repeat("pair(0,", 18) + "0" + strings.Repeat(")", 19),
		">1.n" + longType(38):      "fun:1:n(" + strings.Repeat("box:1(", 37) + "0" + strings.Repeat(")", 38),
		">1." + longType(38) + "n": "fun:1:" + longType(38) + "(0)",
	} {
		ty := parsedType(t, text)
		if slowDefault(ty) != want {
			t.Fatalf("the tests have %s for %s", slowDefault(ty), text)
		}
		got, ok := impl.DefaultTerm(s, ty)
		checkTerm(t, "DefaultTerm of "+text, got, ok, want)
		// All needs are 0 there, which is below all grades of this system.
		if !impl.Fits(s, nil, nil, got, ty) {
			t.Errorf("DefaultTerm of %s has another type", text)
		}
	}
	// Where 0 is not below 1 the default term of an arrow has no type, and is what it is all the same.
	ty := []int{impl.TyArrow + 1, 0, 1, 0, 0}
	got, ok := impl.DefaultTerm(impl.CountSystem(1), ty)
	checkTerm(t, "DefaultTerm in a system that counts", got, ok, "fun:1:n(pair(0,0))")
	if fault, _ := impl.FaultOf(impl.CountSystem(1), nil, got); fault != impl.FaultNeed {
		t.Errorf("the function has the fault %d", fault)
	}
}

func TestDefaultTermOfAllTypes(t *testing.T) {
	for _, s := range goodSystems() {
		for _, x := range smallTypes() {
			want := ""
			if !x.open && x.greatest < s.Size {
				want = slowDefault(x.ty)
			}
			got, ok := impl.DefaultTerm(s, x.ty)
			checkTerm(t, "DefaultTerm of "+x.text, got, ok, want)
		}
	}
	r := rand.New(rand.NewSource(7))
	for i := range 3000 {
		s := []impl.System{impl.BoundSystem(2), impl.LevelSystem(15), askew}[i%3]
		ty := madeType(r, 1+i%40, s.Size, 4)
		got, ok := impl.DefaultTerm(s, ty)
		checkTerm(t, "DefaultTerm of "+typeText(ty), got, ok, slowDefault(ty))
		if !impl.IsTerm(s, got, 0) {
			t.Errorf("DefaultTerm of %s is no term without variables", typeText(ty))
		}
		if impl.IsData(s, ty) && !impl.IsValue(s, ty, got) {
			t.Errorf("DefaultTerm of %s is no value", typeText(ty))
		}
	}
	for text, ty := range longTypes(40) {
		want := ""
		if !strings.Contains(text, "?") {
			want = slowDefault(ty)
		}
		got, ok := impl.DefaultTerm(impl.BoundSystem(2), ty)
		checkTerm(t, "DefaultTerm of "+text, got, ok, want)
	}
}

// TestFunctionsOfValuesChangeNoArgument looks at types, values and systems with room behind them.
func TestFunctionsOfValuesChangeNoArgument(t *testing.T) {
	r := rand.New(rand.NewSource(8))
	s := impl.BoundSystem(2)
	for i := range 400 {
		ty := madeType(r, 1+i%40, s.Size, 3+i%2)
		wide := wideList(ty)
		v := numberTerm(0)
		if impl.IsData(s, ty) {
			v = madeValue(r, ty)
		}
		keepsTerms(t, "a function of values", func(l []impl.Term) []impl.Term {
			impl.IsValue(s, wide, l[0])
			impl.PlaceOf(s, wide, l[0])
			impl.CountValues(s, wide)
			d, _ := impl.DefaultTerm(s, wide)
			results := []impl.Term{d}
			for _, k := range []int{0, 1, 2, impl.CountValues(s, wide) - 1} {
				x, _ := impl.ValueAt(s, wide, k)
				results = append(results, x)
			}
			return results
		}, v)
		if !keptList(wide, ty) {
			t.Fatalf("a function of values changes the type %s", typeText(ty))
		}
	}
	unchanged(t, "a function of values", s, func(s impl.System) {
		ty := []int{2, 0, 20, 0}
		impl.IsValue(s, ty, numberTerm(0))
		impl.CountValues(s, ty)
		impl.ValueAt(s, ty, 4)
		impl.PlaceOf(s, ty, numberTerm(0))
		impl.DefaultTerm(s, ty)
	})
}

// TestValuesShareNoMemoryWithTheType writes over what is returned, and looks at the type.
func TestValuesShareNoMemoryWithTheType(t *testing.T) {
	s := impl.BoundSystem(2)
	for _, text := range []string{"n", "+nn", "+n+n!1.n", "++nn*nn", ">1.+nn+nn", "*+nn+nn", "!1.+!2.n*nn"} {
		ty := parsedType(t, text)
		wide := wideList(ty)
		results := []impl.Term{}
		for k := range max(impl.CountValues(s, ty), 0) {
			v, _ := impl.ValueAt(s, wide, k)
			results = append(results, v)
		}
		d, _ := impl.DefaultTerm(s, wide)
		results = append(results, d)
		next := 1000
		for i := range results {
			next = scribble(&results[i], next)
		}
		if !keptList(wide, ty) {
			t.Errorf("a value of %s shares memory with it", text)
		}
		next = 1000
		for _, x := range results {
			next = scribbled(x, next)
		}
		if next < 0 {
			t.Errorf("values of %s share memory", text)
		}
	}
}

// TestPartsOfTypeShareNoMemory looks at the parts that values are made with, too.
func TestPartsOfTypeShareNoMemory(t *testing.T) {
	for _, text := range []string{"n", "*nn", "+!1.n*nn", ">2.+nnn", "!3.*nn", longType(40), power(20)} {
		ty := parsedType(t, text)
		wide := wideList(ty)
		if !allDistinct(impl.PartsOfType(wide)) || !keptList(wide, ty) {
			t.Errorf("the parts of %s share memory", text)
		}
	}
}
