package tests

import (
	"slices"
	"strconv"
	"strings"
	"testing"

	"loop.example/g03111/impl"
)

func TestIsSystemAcceptsSystems(t *testing.T) {
	for name, s := range goodSystems() {
		if !impl.IsSystem(s) {
			t.Errorf("%s is a system", name)
		}
	}
	for n := 1; n <= 15; n++ {
		if n <= 14 && (!impl.IsSystem(impl.CountSystem(n)) || !impl.IsSystem(impl.BoundSystem(n))) || !impl.IsSystem(impl.LevelSystem(n)) {
			t.Errorf("the systems for %d", n)
		}
	}
	if !impl.IsSystem(chain(0, 1)) || !impl.IsSystem(chain(0, 15, 14, 13, 12, 11, 10, 9, 8, 7, 6, 5, 4, 3, 2, 1)) {
		t.Error("the sizes 2 and MaxGrades are accepted")
	}
}

func TestIsSystemRejectsForms(t *testing.T) {
	for name, s := range badSystems() {
		if impl.IsSystem(s) {
			t.Errorf("%s is no system", name)
		}
	}
}

func TestIsSystemRejectsEachBrokenLaw(t *testing.T) {
	for name, s := range lawBreakers() {
		if b := brokenLaws(s); len(b) != 1 || !b[name] {
			t.Errorf("%s: the table breaks %v", name, b)
		}
		if impl.IsSystem(s) {
			t.Errorf("%s does not hold", name)
		}
	}
}

// TestIsSystemAtEveryChange changes each element of each table to each other value.
func TestIsSystemAtEveryChange(t *testing.T) {
	for name, s := range goodSystems() {
		if s.Size > 6 {
			continue
		}
		check := func(table string, i int) {
			if got, want := impl.IsSystem(s), len(brokenLaws(s)) == 0; got != want {
				t.Errorf("%s with another element %d of %s: %v, broken %v", name, i, table, got, brokenLaws(s))
			}
		}
		for i := range s.Plus {
			plus, times := s.Plus[i], s.Times[i]
			for g := 0; g < s.Size; g++ {
				s.Plus[i] = g
				check("Plus", i)
				s.Plus[i] = plus
				s.Times[i] = g
				check("Times", i)
				s.Times[i] = times
			}
			s.Below[i] = !s.Below[i]
			check("Below", i)
			s.Below[i] = !s.Below[i]
		}
	}
}

func TestIsGrade(t *testing.T) {
	for name, s := range goodSystems() {
		for g := 0; g < s.Size; g++ {
			if !impl.IsGrade(s, g) {
				t.Errorf("%s: %d is a grade", name, g)
			}
		}
		for _, g := range strange(s.Size) {
			if impl.IsGrade(s, g) {
				t.Errorf("%s: %d is no grade", name, g)
			}
		}
	}
	for name, s := range badSystems() {
		if impl.IsGrade(s, 0) || impl.IsGrade(s, 1) {
			t.Errorf("%s has no grades", name)
		}
	}
}

func TestGradesOfEachPair(t *testing.T) {
	for name, s := range goodSystems() {
		for a := 0; a < s.Size; a++ {
			for b := 0; b < s.Size; b++ {
				i := a*s.Size + b
				if g := impl.AddGrades(s, a, b); g != s.Plus[i] {
					t.Errorf("%s: %d + %d is %d", name, a, b, g)
				}
				if g := impl.MultiplyGrades(s, a, b); g != s.Times[i] {
					t.Errorf("%s: %d * %d is %d", name, a, b, g)
				}
				if g := impl.IsBelow(s, a, b); g != s.Below[i] {
					t.Errorf("%s: %d below %d is %v", name, a, b, g)
				}
				if g := impl.JoinGrades(s, a, b); g != slowJoin(s, a, b) || g < 0 {
					t.Errorf("%s: the join of %d and %d is %d", name, a, b, g)
				}
				if g := impl.MeetGrades(s, a, b); g != slowMeet(s, a, b) {
					t.Errorf("%s: the meet of %d and %d is %d", name, a, b, g)
				}
			}
		}
	}
}

func TestGradesOfChosenPairs(t *testing.T) {
	count, bound, level := impl.CountSystem(3), impl.BoundSystem(3), impl.LevelSystem(3)
	if impl.MultiplyGrades(askew, 2, 3) != 3 || impl.MultiplyGrades(askew, 3, 2) != 2 {
		t.Error("products need not be commutative")
	}
	if impl.JoinGrades(count, 1, 3) != 4 || impl.JoinGrades(count, 2, 2) != 2 || impl.JoinGrades(bound, 1, 3) != 3 || impl.JoinGrades(level, 2, 3) != 2 {
		t.Error("joins")
	}
	if impl.MeetGrades(count, 1, 3) != -1 || impl.MeetGrades(count, 2, 2) != 2 || impl.MeetGrades(count, 4, 2) != 2 || impl.MeetGrades(bound, 1, 3) != 1 || impl.MeetGrades(level, 2, 3) != 3 {
		t.Error("meets")
	}
	if impl.IsBelow(bound, 3, 1) || !impl.IsBelow(bound, 1, 3) || impl.IsBelow(level, 1, 3) || !impl.IsBelow(level, 0, 3) || impl.IsBelow(count, 0, 1) {
		t.Error("below")
	}
}

func TestGradesOfInvalidArguments(t *testing.T) {
	functions := map[string]func(s impl.System, a, b int) int{
		"AddGrades": impl.AddGrades, "MultiplyGrades": impl.MultiplyGrades,
		"JoinGrades": impl.JoinGrades, "MeetGrades": impl.MeetGrades,
	}
	check := func(name string, s impl.System, a, b int) {
		for f, call := range functions {
			if g := call(s, a, b); g != -1 {
				t.Errorf("%s: %s of %d and %d is %d", name, f, a, b, g)
			}
		}
		if impl.IsBelow(s, a, b) {
			t.Errorf("%s: IsBelow of %d and %d", name, a, b)
		}
	}
	for name, s := range badSystems() {
		check(name, s, 0, 0)
		check(name, s, 0, 1)
		check(name, s, -1, 5)
	}
	for name, s := range lawBreakers() {
		check(name, s, 0, 0)
		check(name, s, 0, 1)
	}
	s := impl.BoundSystem(3)
	for _, g := range strange(s.Size) {
		check("bound 3", s, g, 0)
		check("bound 3", s, 0, g)
		check("bound 3", s, g, g)
		check("bound 3", s, 4, g)
	}
}

func TestSumGrades(t *testing.T) {
	bound, level := impl.BoundSystem(5), impl.LevelSystem(5)
	if impl.SumGrades(bound, nil) != 0 || impl.SumGrades(bound, []int{}) != 0 || impl.SumGrades(bound, []int{4}) != 4 {
		t.Error("short lists")
	}
	if impl.SumGrades(bound, []int{1, 0, 2, 1}) != 4 || impl.SumGrades(bound, []int{2, 2, 1, 1}) != 6 || impl.SumGrades(level, []int{0, 5, 3, 4}) != 3 {
		t.Error("sums")
	}
	if impl.SumGrades(bound, make([]int, 10000)) != 0 || impl.SumGrades(bound, slices.Repeat([]int{1}, 10000)) != 6 {
		t.Error("long lists")
	}
	for _, g := range strange(bound.Size) {
		if impl.SumGrades(bound, []int{g}) != -1 || impl.SumGrades(bound, []int{6, 6, g}) != -1 || impl.SumGrades(bound, []int{g, 0}) != -1 {
			t.Errorf("%d is no grade", g)
		}
	}
	for name, s := range badSystems() {
		if impl.SumGrades(s, nil) != -1 || impl.SumGrades(s, []int{0}) != -1 {
			t.Errorf("%s has no sums", name)
		}
	}
}

func TestLeastGrade(t *testing.T) {
	want := map[string]int{
		"upsideDown": 1, "fading": 0, "askew": 2, "count 1": -1, "bound 1": 0, "bound 5": 0, "level 5": 0,
		"count 1*level 1": -1, "level 1*level 1": 0, "bound 1*upsideDown": 2, "factorsLost": 0, "ordersLost": 1,
	}
	systems := goodSystems()
	for name, least := range want {
		if g := impl.LeastGrade(systems[name]); g != least {
			t.Errorf("%s: the least grade is %d", name, g)
		}
	}
	for name, s := range badSystems() {
		if impl.LeastGrade(s) != -1 {
			t.Errorf("%s has no least grade", name)
		}
	}
}

func TestCountSystem(t *testing.T) {
	if s := impl.CountSystem(1); !equalSystems(s, tables(3, "012 122 222", "000 012 022", "101 011 001")) {
		t.Error(s)
	}
	if s := impl.CountSystem(2); !equalSystems(s, tables(4, "0123 1233 2333 3333", "0000 0123 0233 0333", "1001 0101 0011 0001")) {
		t.Error(s)
	}
	checkNumbers(t, impl.CountSystem, func(a, b, many int) bool { return a == b || b == many })
}

func TestBoundSystem(t *testing.T) {
	if s := impl.BoundSystem(1); !equalSystems(s, tables(3, "012 122 222", "000 012 022", "111 011 001")) {
		t.Error(s)
	}
	if s := impl.BoundSystem(2); !equalSystems(s, tables(4, "0123 1233 2333 3333", "0000 0123 0233 0333", "1111 0111 0011 0001")) {
		t.Error(s)
	}
	checkNumbers(t, impl.BoundSystem, func(a, b, many int) bool { return a <= b })
}

// checkNumbers writes the systems of numbers down with a case of its own for many.
func checkNumbers(t *testing.T, build func(n int) impl.System, below func(a, b, many int) bool) {
	t.Helper()
	for n := 1; n <= 14; n++ {
		many := n + 1
		want := impl.System{Size: n + 2}
		for a := 0; a <= many; a++ {
			for b := 0; b <= many; b++ {
				sum, product := a+b, a*b
				if a == many || b == many || sum > n {
					sum = many
				}
				if a != 0 && b != 0 && (a == many || b == many || product > n) {
					product = many
				}
				want.Plus = append(want.Plus, sum)
				want.Times = append(want.Times, product)
				want.Below = append(want.Below, below(a, b, many))
			}
		}
		if s := build(n); !equalSystems(s, want) {
			t.Errorf("for %d: %v", n, s)
		}
	}
	checkNoSystem(t, build, 15)
}

func checkNoSystem(t *testing.T, build func(n int) impl.System, beyond int) {
	t.Helper()
	for _, n := range []int{0, -1, -2, -1 << 63, beyond, beyond + 1, beyond + 2, 1 << 32, 1<<63 - 2, 1<<63 - 1} {
		if s := build(n); s.Size != 0 || len(s.Plus) != 0 || len(s.Times) != 0 || len(s.Below) != 0 {
			t.Errorf("for %d: %v", n, s)
		}
	}
}

func TestLevelSystem(t *testing.T) {
	if s := impl.LevelSystem(2); !equalSystems(s, tables(3, "012 111 212", "000 012 022", "111 010 011")) {
		t.Error(s)
	}
	for n := 1; n <= 15; n++ {
		order := []int{0}
		for g := n; g >= 1; g-- {
			order = append(order, g)
		}
		if s := impl.LevelSystem(n); !equalSystems(s, chain(order...)) {
			t.Errorf("for %d: %v", n, s)
		}
	}
	checkNoSystem(t, impl.LevelSystem, 16)
}

// products are pairs of systems of which there is a product, MaxGrades as the size among them.
func products() [][2]impl.System {
	count, bound, level := impl.CountSystem, impl.BoundSystem, impl.LevelSystem
	return [][2]impl.System{
		{count(1), level(1)}, {level(1), count(1)}, {level(1), level(1)}, {bound(1), count(2)}, {count(1), bound(1)},
		{bound(2), level(3)}, {level(7), level(1)}, {level(1), bound(6)}, {count(2), bound(2)}, {askew, level(2)},
		{upsideDown, askew}, {level(4), upsideDown},
	}
}

// noProducts are pairs of systems and tables of which there is none.
func noProducts() [][2]impl.System {
	count, bound, level := impl.CountSystem, impl.BoundSystem, impl.LevelSystem
	pairs := [][2]impl.System{
		{bound(1), level(5)}, {level(5), bound(1)}, {level(1), bound(7)}, {level(15), level(1)}, {count(14), count(14)},
	}
	for _, s := range badSystems() {
		pairs = append(pairs, [2]impl.System{s, level(1)}, [2]impl.System{level(1), s}, [2]impl.System{s, s})
	}
	for _, s := range lawBreakers() {
		pairs = append(pairs, [2]impl.System{s, level(1)}, [2]impl.System{level(1), s})
	}
	return pairs
}

func TestProductSystem(t *testing.T) {
	for i, p := range products() {
		s, ok := impl.ProductSystem(p[0], p[1])
		if !ok || !equalSystems(s, product(p[0], p[1])) || !impl.IsSystem(s) {
			t.Errorf("product %d: %v, %v", i, s, ok)
		}
	}
	for i, p := range noProducts() {
		s, ok := impl.ProductSystem(p[0], p[1])
		if ok || s.Size != 0 || len(s.Plus) != 0 || len(s.Times) != 0 || len(s.Below) != 0 {
			t.Errorf("there is no product %d: %v", i, s)
		}
	}
	s, ok := impl.ProductSystem(impl.LevelSystem(1), impl.LevelSystem(1))
	if !ok || !equalSystems(s, tables(4, "0123 1111 2121 3113", "0000 0123 0220 0303", "1111 0100 0110 0101")) {
		t.Error(s)
	}
}

func TestNumbersOfPairs(t *testing.T) {
	a, b := impl.CountSystem(1), impl.LevelSystem(1)
	for g, p := range [][2]int{{0, 0}, {1, 1}, {0, 1}, {1, 0}, {2, 0}, {2, 1}} {
		if x, y := impl.PartsOfGrade(a, b, g); x != p[0] || y != p[1] || impl.PairGrades(a, b, x, y) != g {
			t.Errorf("%d is %d, %d", g, x, y)
		}
	}
	for i, p := range products() {
		for g, pair := range pairsOf(p[0], p[1]) {
			if x, y := impl.PartsOfGrade(p[0], p[1], g); x != pair[0] || y != pair[1] {
				t.Errorf("product %d: %d is %d, %d", i, g, x, y)
			}
			if n := impl.PairGrades(p[0], p[1], pair[0], pair[1]); n != g {
				t.Errorf("product %d: %v is %d", i, pair, n)
			}
		}
	}
}

func TestNoNumbersOfPairs(t *testing.T) {
	for i, p := range noProducts() {
		x, y := impl.PartsOfGrade(p[0], p[1], 0)
		u, v := impl.PartsOfGrade(p[0], p[1], 1)
		if impl.PairGrades(p[0], p[1], 0, 0) != -1 || impl.PairGrades(p[0], p[1], 1, 1) != -1 || x != -1 || y != -1 || u != -1 || v != -1 {
			t.Errorf("there is no product %d", i)
		}
	}
	a, b := impl.BoundSystem(2), impl.LevelSystem(1)
	for _, g := range strange(a.Size) {
		if impl.PairGrades(a, b, g, 0) != -1 || impl.PairGrades(a, b, g, g) != -1 {
			t.Errorf("%d is no first part", g)
		}
	}
	for _, g := range strange(b.Size) {
		if impl.PairGrades(a, b, 0, g) != -1 || impl.PairGrades(a, b, 3, g) != -1 {
			t.Errorf("%d is no second part", g)
		}
	}
	for _, g := range strange(a.Size * b.Size) {
		if x, y := impl.PartsOfGrade(a, b, g); x != -1 || y != -1 {
			t.Errorf("%d is no pair: %d, %d", g, x, y)
		}
	}
}

func TestIsReliable(t *testing.T) {
	want := map[string]bool{
		"count 1": true, "count 5": true, "bound 2": true, "level 1": true, "level 5": true, "askew": false,
		"upsideDown": false, "fading": false, "level 1*level 1": false, "count 1*level 1": false,
	}
	systems := goodSystems()
	for name, reliable := range want {
		if impl.IsReliable(systems[name]) != reliable {
			t.Errorf("%s: not %v", name, reliable)
		}
	}
	for n := 1; n <= 14; n++ {
		if !impl.IsReliable(impl.CountSystem(n)) || !impl.IsReliable(impl.BoundSystem(n)) || !impl.IsReliable(impl.LevelSystem(n)) {
			t.Errorf("the systems for %d are reliable", n)
		}
	}
	for name, s := range badSystems() {
		if impl.IsReliable(s) {
			t.Errorf("%s is no system", name)
		}
	}
	for name, s := range lawBreakers() {
		if impl.IsReliable(s) {
			t.Errorf("%s does not hold", name)
		}
	}
}

func TestIsViewOfEachSet(t *testing.T) {
	for name, s := range goodSystems() {
		for _, v := range subsets(s.Size) {
			if got, want := impl.IsView(s, v), slowIsView(s, v); got != want {
				t.Errorf("%s: %v is %v", name, v, got)
			}
		}
	}
}

func TestIsViewByEveryPair(t *testing.T) {
	count := impl.CountSystem(2)
	if !impl.IsView(count, []int{1, 2, 3}) || !impl.IsView(impl.LevelSystem(3), []int{1, 2}) || !impl.IsView(impl.LevelSystem(3), []int{1}) {
		t.Error("views")
	}
	if impl.IsView(sumsLost, []int{1}) {
		t.Error("2 + 3 is in, but neither part")
	}
	if impl.IsView(factorsLost, []int{1, 2}) {
		t.Error("3 * 2 is in, but 3 is not")
	}
	if impl.IsView(fading, []int{1, 2}) {
		t.Error("2 is in, but not 2 * 2")
	}
	if impl.IsView(ordersLost, []int{1}) {
		t.Error("1 is in and below others, which are not")
	}
	if impl.IsView(upsideDown, []int{1}) {
		t.Error("1 is below 0")
	}
}

func TestIsViewOfInvalidArguments(t *testing.T) {
	s := impl.LevelSystem(3)
	for _, v := range [][]int{nil, {}, {0}, {2}, {3}, {2, 3}, {0, 1}, {0, 1, 2, 3}, {1, 1}, {1, 2, 2}, {2, 1}, {1, 3, 2}, {3, 2, 1}, {1, 2, 3, 3}, {1, 2, 3, 1}} {
		if impl.IsView(s, v) {
			t.Errorf("%v is no view", v)
		}
	}
	for _, g := range strange(s.Size) {
		if impl.IsView(s, []int{g}) || impl.IsView(s, []int{1, 2, g}) || impl.IsView(s, []int{g, 1}) {
			t.Errorf("%d is no grade", g)
		}
	}
	// A number beyond the grades must not be taken for the bit of a grade.
	if impl.IsView(s, []int{1, 2, 33}) || impl.IsView(s, []int{1, 34}) || impl.IsView(s, []int{1, 66}) {
		t.Error("numbers that are no grades")
	}
	for name, s := range badSystems() {
		if impl.IsView(s, []int{1}) || impl.IsView(s, []int{1, 2, 3}) || impl.IsView(s, nil) {
			t.Errorf("%s has no views", name)
		}
	}
	for name, s := range lawBreakers() {
		for _, v := range subsets(s.Size) {
			if impl.IsView(s, v) {
				t.Errorf("%s: %v", name, v)
			}
		}
	}
}

func TestViewsOf(t *testing.T) {
	systems := goodSystems()
	for name, s := range systems {
		var want [][]int
		for _, v := range subsets(s.Size) {
			if slowIsView(s, v) {
				want = append(want, v)
			}
		}
		if got := impl.ViewsOf(s); !slices.EqualFunc(got, want, slices.Equal[[]int]) {
			t.Errorf("%s: %v, not %v", name, got, want)
		}
	}
	if got := impl.ViewsOf(systems["level 1*level 1"]); !slices.EqualFunc(got, [][]int{{1, 2}, {1, 3}}, slices.Equal[[]int]) {
		t.Error(got)
	}
	if got := impl.ViewsOf(upsideDown); len(got) != 0 {
		t.Error(got)
	}
	for n := 1; n <= 15; n++ {
		if got := impl.ViewsOf(impl.LevelSystem(n)); len(got) != n {
			t.Errorf("level %d: %v", n, got)
		}
	}
	for n := 1; n <= 14; n++ {
		if got := impl.ViewsOf(impl.BoundSystem(n)); len(got) != 1 || len(got[0]) != n+1 {
			t.Errorf("bound %d: %v", n, got)
		}
	}
}

func TestViewsOfInvalidArguments(t *testing.T) {
	for name, s := range badSystems() {
		if v := impl.ViewsOf(s); len(v) != 0 {
			t.Errorf("%s: %v", name, v)
		}
	}
	for name, s := range lawBreakers() {
		if v := impl.ViewsOf(s); len(v) != 0 {
			t.Errorf("%s: %v", name, v)
		}
	}
}

func TestIsMap(t *testing.T) {
	count, bound, level := impl.CountSystem, impl.BoundSystem, impl.LevelSystem
	for name, x := range map[string]struct {
		a, b impl.System
		f    []int
		want bool
	}{
		"itself":             {bound(2), bound(2), []int{0, 1, 2, 3}, true},
		"forgets numbers":    {bound(2), level(1), []int{0, 1, 1, 1}, true},
		"count to bound":     {count(2), bound(2), []int{0, 1, 2, 3}, true},
		"bound to count":     {bound(2), count(2), []int{0, 1, 2, 3}, false},
		"to fewer numbers":   {bound(3), bound(2), []int{0, 1, 2, 3, 3}, true},
		"the second part":    {product(level(1), bound(1)), bound(1), []int{0, 1, 1, 2, 0, 2}, true},
		"the first part":     {product(bound(1), level(1)), bound(1), []int{0, 1, 0, 1, 2, 2}, true},
		"0 to another":       {level(1), level(1), []int{1, 1}, false},
		"1 to another":       {level(1), level(1), []int{0, 0}, false},
		"sums not kept":      {level(1), bound(1), []int{0, 1}, false},
		"products not kept":  {level(2), fading, []int{0, 1, 2}, false},
		"order not kept":     {bound(1), count(1), []int{0, 1, 2}, false},
		"order upside down":  {level(1), upsideDown, []int{0, 1}, false},
		"to greater numbers": {bound(1), bound(2), []int{0, 1, 2}, false},
		"many to many":       {bound(1), bound(2), []int{0, 1, 3}, false},
	} {
		if got := impl.IsMap(x.a, x.b, x.f); got != x.want {
			t.Errorf("%s: %v", name, got)
		}
	}
}

// TestIsMapOfEachList tries all lists between small systems.
func TestIsMapOfEachList(t *testing.T) {
	systems := []impl.System{
		impl.LevelSystem(1), impl.CountSystem(1), impl.BoundSystem(1), impl.LevelSystem(2), fading, upsideDown,
		impl.BoundSystem(2), impl.LevelSystem(3), askew, sumsLost, factorsLost, ordersLost,
	}
	for i, a := range systems {
		for j, b := range systems {
			f := make([]int, a.Size)
			for {
				if got, want := impl.IsMap(a, b, f), slowIsMap(a, b, f); got != want {
					t.Errorf("%d to %d: %v is %v", i, j, f, got)
				}
				k := 0
				for k < len(f) && f[k] == b.Size-1 {
					f[k] = 0
					k++
				}
				if k == len(f) {
					break
				}
				f[k]++
			}
		}
	}
}

func slowIsMap(a, b impl.System, f []int) bool {
	is := f[0] == 0 && f[1] == 1
	for x := 0; x < a.Size; x++ {
		for y := 0; y < a.Size; y++ {
			i, j := x*a.Size+y, f[x]*b.Size+f[y]
			is = is && f[a.Plus[i]] == b.Plus[j] && f[a.Times[i]] == b.Times[j] && (!a.Below[i] || b.Below[j])
		}
	}
	return is
}

func TestIsMapOfInvalidArguments(t *testing.T) {
	a, b := impl.BoundSystem(2), impl.LevelSystem(1)
	for _, f := range [][]int{nil, {}, {0}, {0, 1}, {0, 1, 1}, {0, 1, 1, 1, 1}, {0, 1, 1, 2}, {0, 1, 1, -1}, {-1, 1, 1, 1}, {0, 1, 1, 1<<63 - 1}, {0, -1 << 63, 1, 1}} {
		if impl.IsMap(a, b, f) {
			t.Errorf("%v is no map", f)
		}
	}
	for name, s := range badSystems() {
		if impl.IsMap(s, b, []int{0, 1, 1, 1}) || impl.IsMap(b, s, []int{0, 1}) || impl.IsMap(s, s, []int{0, 1, 2, 3}) || impl.IsMap(s, s, nil) {
			t.Errorf("%s has no maps", name)
		}
	}
	for name, s := range lawBreakers() {
		if f := []int{0, 1, 2, 3}; impl.IsMap(s, s, f[:s.Size]) {
			t.Errorf("%s: %v", name, f)
		}
	}
}

// textsOfOnePart are all of them, in their order.
func textsOfOnePart() []string {
	var texts []string
	for _, word := range []string{"count", "bound", "level"} {
		for n := 1; n <= 15; n++ {
			if n <= 14 || word == "level" {
				texts = append(texts, word+" "+strconv.Itoa(n))
			}
		}
	}
	return texts
}

// written is the system that a text names, found without ParseSystem.
func written(text string) impl.System {
	if a, b, ok := strings.Cut(text, "*"); ok {
		return product(written(a), written(b))
	}
	word, digits, _ := strings.Cut(text, " ")
	n, _ := strconv.Atoi(digits)
	return map[string]func(n int) impl.System{"count": impl.CountSystem, "bound": impl.BoundSystem, "level": impl.LevelSystem}[word](n)
}

func TestTextsOfSystems(t *testing.T) {
	texts := textsOfOnePart()
	for _, a := range textsOfOnePart() {
		for _, b := range textsOfOnePart() {
			s, ok := impl.ParseSystem(a + "*" + b)
			if fits := written(a).Size*written(b).Size <= 16; ok != fits || !fits && s.Size != 0 {
				t.Errorf("%s*%s: %v", a, b, ok)
			} else if fits {
				texts = append(texts, a+"*"+b)
			}
		}
	}
	for i, text := range texts {
		want := written(text)
		if s, ok := impl.ParseSystem(text); !ok || !equalSystems(s, want) {
			t.Errorf("ParseSystem(%q): %v, %v", text, s, ok)
		}
		first := texts[slices.IndexFunc(texts[:i+1], func(u string) bool { return equalSystems(written(u), want) })]
		if got := impl.FormatSystem(want); got != first {
			t.Errorf("FormatSystem of %q: %q, not %q", text, got, first)
		}
	}
}

func TestFormatSystemOfOthers(t *testing.T) {
	for _, s := range []impl.System{upsideDown, fading, askew, product(impl.BoundSystem(1), upsideDown), product(product(impl.LevelSystem(1), impl.LevelSystem(1)), impl.LevelSystem(1))} {
		if !impl.IsSystem(s) || impl.FormatSystem(s) != "" {
			t.Errorf("%v: %q", s, impl.FormatSystem(s))
		}
	}
	for name, s := range badSystems() {
		if got := impl.FormatSystem(s); got != "" {
			t.Errorf("%s: %q", name, got)
		}
	}
	for name, s := range lawBreakers() {
		if got := impl.FormatSystem(s); got != "" {
			t.Errorf("%s: %q", name, got)
		}
	}
	for _, text := range []string{"bound 2", "level 3", "count 1*level 1"} {
		s := written(text)
		for i := range s.Below {
			s.Below[i] = !s.Below[i]
			if got := impl.FormatSystem(s); got == text {
				t.Errorf("%q with another Below[%d]", text, i)
			}
			s.Below[i] = !s.Below[i]
		}
	}
}

func TestParseSystemOfOtherTexts(t *testing.T) {
	for _, text := range []string{
		"", " ", "*", "**", "count", "count ", " count 1", "count 1 ", "count  1", "count\t1", "count1", "Count 1", "counts 1",
		"coun 1", "count 0", "count -1", "count +1", "count 01", "count 1.0", "count 0x1", "count 1_0", "count x", "count 15", "bound 15",
		"bound 0", "level 0", "level 16", "level -2", "level 01", "bound +2", "bound -0", "count 99999999999999999999", "count 18446744073709551617",
		"count 9223372036854775807", "count -9223372036854775808", "1", "level", "?", "n", "pair 1", "count 1\n", "count 1\x00", "\xff 1", "count \xff",
		"count 1*", "*count 1", "count 1**level 1", "count 1 * level 1", "count 1* level 1", "count 1 *level 1", "count 1*level", "count 1*level 0",
		"count 1*level 5", "level 5*count 1", "level 15*level 1", "count 1*Level 1", "level 1*level 1*level 1", "level 1*level 1*", "count 0*level 1",
		"count 1+level 1", "(count 1)", "count 1, level 1", "count one", "count １", strings.Repeat("level 1*", 1000) + "level 1", "count " + strings.Repeat("0", 10000) + "1",
	} {
		s, ok := impl.ParseSystem(text)
		if ok || s.Size != 0 || len(s.Plus) != 0 || len(s.Times) != 0 || len(s.Below) != 0 {
			t.Errorf("%q is no text of a system: %v", text, s)
		}
	}
	for _, text := range []string{"count 14", "bound 14", "level 15", "level 7*level 1", "count 2*bound 2"} {
		if s, ok := impl.ParseSystem(text); !ok || !equalSystems(s, written(text)) {
			t.Errorf("%q is at the limit", text)
		}
	}
}

func TestGradesChangeNoArgument(t *testing.T) {
	for name, s := range goodSystems() {
		unchanged(t, name, s, func(s impl.System) {
			impl.IsSystem(s)
			impl.IsGrade(s, 1)
			impl.AddGrades(s, 1, 1)
			impl.MultiplyGrades(s, 1, 1)
			impl.IsBelow(s, 0, 1)
			impl.JoinGrades(s, 0, 1)
			impl.MeetGrades(s, 0, 1)
			impl.LeastGrade(s)
			impl.ProductSystem(s, impl.LevelSystem(1))
			impl.ProductSystem(impl.LevelSystem(1), s)
			impl.PairGrades(s, s, 1, 1)
			impl.PartsOfGrade(s, s, 1)
			impl.IsReliable(s)
			impl.IsView(s, []int{1})
			impl.IsMap(s, s, make([]int, s.Size))
			impl.FormatSystem(s)
			for _, v := range impl.ViewsOf(s) {
				clear(v[:cap(v)])
			}
		})
		wide := []int{1, -9, -9}
		impl.SumGrades(s, wide[:1])
		impl.IsView(s, wide[:1])
		impl.IsMap(s, s, wide[:1])
		if !slices.Equal(wide, []int{1, -9, -9}) {
			t.Errorf("%s: a list was changed: %v", name, wide)
		}
	}
}

// TestResultsOfGradesAreNew writes all over a result and looks at what else would show it.
func TestResultsOfGradesAreNew(t *testing.T) {
	spoil := func(s impl.System) {
		for i := range s.Plus {
			s.Plus[i], s.Times[i], s.Below[i] = -9, -8, !s.Below[i]
		}
	}
	for _, text := range []string{"count 2", "bound 3", "level 4", "count 1*level 1"} {
		s, _ := impl.ParseSystem(text)
		plus := slices.Clone(s.Plus)
		for i := range s.Times {
			s.Times[i] = -9
		}
		if !slices.Equal(plus, s.Plus) {
			t.Errorf("%s: two tables share their memory", text)
		}
		spoil(s)
		if again, ok := impl.ParseSystem(text); !ok || !equalSystems(again, written(text)) {
			t.Errorf("%s: another result", text)
		}
	}
	a, b := impl.CountSystem(1), impl.LevelSystem(1)
	p, _ := impl.ProductSystem(a, b)
	spoil(p)
	if !equalSystems(a, impl.CountSystem(1)) || !equalSystems(b, impl.LevelSystem(1)) {
		t.Error("a product shares memory with its parts")
	}
	views := impl.ViewsOf(impl.LevelSystem(6))
	for i, v := range views {
		for j := range v[:cap(v)] {
			v[:cap(v)][j] = -i - 9
		}
		if i+1 < len(views) && slices.ContainsFunc(views[i+1], func(g int) bool { return g < 0 }) {
			t.Errorf("the views %d and %d share memory", i, i+1)
		}
	}
}
