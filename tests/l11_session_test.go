package tests

import (
	"fmt"
	"math/rand"
	"reflect"
	"slices"
	"strings"
	"testing"

	"loop.example/g03111/impl"
)

func TestNewSession(t *testing.T) {
	x, y := impl.NewSession(), impl.NewSession()
	if !equalSessions(x, sessionOf(t, "count 1||0")) {
		t.Errorf("NewSession is %s", sessionText(x))
	}
	if !impl.IsSession(x) {
		t.Errorf("NewSession is no session")
	}
	if !ownsMemory([]impl.Session{x, y}) {
		t.Errorf("NewSession returns memory that is shared")
	}
	x.System.Plus[3], x.System.Times[3], x.System.Below[3], x.Term.N = 7, 7, true, 7
	if !equalSessions(impl.NewSession(), y) {
		t.Errorf("NewSession keeps a state")
	}
}

func TestIsSession(t *testing.T) {
	for name, s := range goodSystems() {
		for n := range 9 {
			for _, text := range []string{
				"0", "x0", "x7", "add(1,1)", "fun:15:>?.n!15.n(x8)", "app(1,1)", "box:?(1)", "split:1(x0,x9)", "if(box:0(1),1,pair(1,1))",
				nested(399, "box:0(|)", "1"), nested(100, "if(|,0,0)", ofSize(100)),
			} {
				if !impl.IsSession(impl.Session{System: s, Ctx: slices.Repeat([][]int{{19, 0}}, n), Term: parsed(t, text)}) {
					t.Errorf("%s, %d variables and %.40s are no session", name, n, text)
				}
			}
		}
		// Types with each grade, and the first one that is none.
		for _, first := range []int{3, 19} {
			for g := range s.Size + 1 {
				x := impl.Session{System: s, Ctx: [][]int{{0}, {first + g, 0, 0}}, Term: numberTerm(0)}
				if first == 19 {
					x.Ctx[1] = x.Ctx[1][:2]
				}
				if g == s.Size && first+g == 35 {
					// This is the code of an open arrow.
					x.Ctx[1] = []int{35, 0, 0}
				}
				if impl.IsSession(x) != (g < s.Size) {
					t.Errorf("%s with the code %d: %v", name, first+g, g >= s.Size)
				}
			}
		}
	}
	long := contextOf(t, longType(40)+" "+power(20)+" "+longType(39))
	if !impl.IsSession(impl.Session{System: impl.BoundSystem(2), Ctx: long, Term: numberTerm(2)}) {
		t.Errorf("a session with long types is none")
	}
	// Lists that are nil, and lists that are empty.
	empty := impl.Session{System: impl.BoundSystem(2), Ctx: [][]int{}, Term: impl.Term{Op: impl.TmNum, Type: []int{}, Kids: []impl.Term{}}}
	if !impl.IsSession(empty) || !impl.IsSession(impl.Session{System: impl.BoundSystem(2)}) {
		t.Errorf("a session with empty lists, or without, is none")
	}
}

func TestNoSessions(t *testing.T) {
	lines := append(richLines(), "", "what", "type ", "term", "system bound 0")
	for reason, x := range badSessions() {
		if impl.IsSession(x) {
			t.Errorf("%s: IsSession", reason)
		}
		for _, line := range lines {
			behind, answer := impl.ExecuteLine(x, line)
			if answer != "error" || !isZeroSession(behind) {
				t.Errorf("%s: %q is %s, and leads to %s", reason, line, answer, sessionText(behind))
			}
		}
	}
	for _, n := range []int{9, 10, 17} {
		x := impl.Session{System: impl.BoundSystem(2), Ctx: slices.Repeat([][]int{{0}}, n), Term: numberTerm(0)}
		for _, line := range lines {
			if behind, answer := impl.ExecuteLine(x, line); impl.IsSession(x) || answer != "error" || !isZeroSession(behind) {
				t.Errorf("%d variables: %q is %s", n, line, answer)
			}
		}
	}
}

func TestFormatGrades(t *testing.T) {
	for _, c := range []struct {
		l    []int
		want string
	}{
		{nil, "-"},
		{[]int{}, "-"},
		{[]int{0}, "0"},
		{[]int{-1}, "-1"},
		{[]int{0, 0}, "0 0"},
		{[]int{-10, 0}, "-10 0"},
		{[]int{3, 1, 2}, "3 1 2"},
		{[]int{15, 16, 100, -100}, "15 16 100 -100"},
		{[]int{1<<63 - 1, -1 << 63}, "9223372036854775807 -9223372036854775808"},
		{slices.Repeat([]int{7}, 1000), strings.Repeat("7 ", 999) + "7"},
	} {
		if got := impl.FormatGrades(c.l); got != c.want {
			t.Errorf("FormatGrades of %v is %q, not %q", c.l, got, c.want)
		}
	}
	r := rand.New(rand.NewSource(11))
	for n := range 400 {
		var l []int
		for range n % 20 {
			l = append(l, int(r.Uint64())>>r.Intn(64))
		}
		wide := wideList(l)
		if got := impl.FormatGrades(wide); got != slowGrades(l) || !keptList(wide, l) {
			t.Errorf("FormatGrades of %v is %q", l, got)
		}
	}
}

// TestSessionsThatShareMemory has a session whose parts share their memory, with each other, too.
func TestSessionsThatShareMemory(t *testing.T) {
	numbers := []int{5, 0, 0}
	left := impl.Term{Op: impl.TmLeft, Type: numbers, Kids: []impl.Term{numberTerm(1)}}
	x := impl.Session{System: impl.LevelSystem(2), Ctx: [][]int{numbers, numbers, {0}}, Term: leastTerm(impl.TmPair, left, left)}
	x.System.Plus = []int{0, 1, 2, 1, 1, 1, 2, 1, 2, 0, 0, 0, 0, 1, 2, 0, 2, 2}
	x.System.Plus, x.System.Times = x.System.Plus[:9], x.System.Plus[9:]
	before := fmt.Sprint(x)
	for _, line := range append(richLines(), "what", "system bound 0", "variable !?.n", "term 3") {
		behind, answer := impl.ExecuteLine(x, line)
		if !ownsMemory(behind, x) {
			t.Errorf("%q leads to a session that shares memory", line)
		}
		slow := slowSession{x}
		if want := slow.answer(line); answer != want || !equalSessions(behind, slow.Session) {
			t.Errorf("%q is %s, and leads to %s", line, answer, sessionText(behind))
		}
		scribbleOver(reflect.ValueOf(&behind).Elem())
		if fmt.Sprint(x) != before {
			t.Fatalf("%q leads to a session with memory of the one before", line)
		}
	}
}

// scribbleOver writes over all numbers within a value, the spare room of slices included.
func scribbleOver(v reflect.Value) {
	switch v.Kind() {
	case reflect.Struct:
		for i := range v.NumField() {
			scribbleOver(v.Field(i))
		}
	case reflect.Slice:
		for i := range v.Cap() {
			scribbleOver(v.Slice(0, v.Cap()).Index(i))
		}
	case reflect.Int:
		v.SetInt(-99)
	case reflect.Bool:
		v.SetBool(!v.Bool())
	}
}
