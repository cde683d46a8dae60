package tests

import (
	"slices"
	"strconv"
	"testing"

	"loop.example/g03111/impl"
)

// chain is the system of the grades in the order of the list, with the greater one as the sum and the lesser one as
// the product. It is written without the program, which must return the same.
func chain(order ...int) impl.System {
	n := len(order)
	place := make([]int, n)
	for i, g := range order {
		place[g] = i
	}
	s := impl.System{Size: n}
	for a := 0; a < n; a++ {
		for b := 0; b < n; b++ {
			s.Plus = append(s.Plus, order[max(place[a], place[b])])
			s.Times = append(s.Times, order[min(place[a], place[b])])
			s.Below = append(s.Below, place[a] <= place[b])
		}
	}
	return s
}

// tables writes a system down by the rows of its tables; a row of Below has a 1 for true.
func tables(size int, plus, times, below string) impl.System {
	s := impl.System{Size: size}
	for _, c := range plus {
		if c != ' ' {
			s.Plus = append(s.Plus, int(c-'0'))
		}
	}
	for _, c := range times {
		if c != ' ' {
			s.Times = append(s.Times, int(c-'0'))
		}
	}
	for _, c := range below {
		if c != ' ' {
			s.Below = append(s.Below, c == '1')
		}
	}
	return s
}

// Systems that no word names.
var (
	// upsideDown has 1 below 0.
	upsideDown = tables(2, "01 11", "00 01", "10 11")
	// fading has 2 * 2 = 0.
	fading = tables(3, "012 111 212", "000 012 020", "111 010 011")
	// askew has 2 * 3 = 3 and 3 * 2 = 2.
	askew = tables(4, "0123 1121 2222 3123", "0000 0123 0223 0323", "1000 1101 1111 1001")
	// Each of the others has a set that breaks just one of the laws of views.
	sumsLost    = tables(4, "0123 1111 2121 3113", "0000 0123 0220 0303", "1111 0100 0110 0101")
	factorsLost = tables(4, "0123 1121 2222 3123", "0000 0123 0223 0323", "1111 0110 0010 0111")
	ordersLost  = tables(4, "0123 1111 2123 3133", "0000 0123 0200 0323", "1000 1111 1010 1011")
)

func copyOf(s impl.System) impl.System {
	return impl.System{Size: s.Size, Plus: slices.Clone(s.Plus), Times: slices.Clone(s.Times), Below: slices.Clone(s.Below)}
}

func equalSystems(a, b impl.System) bool {
	return a.Size == b.Size && slices.Equal(a.Plus, b.Plus) && slices.Equal(a.Times, b.Times) && slices.Equal(a.Below, b.Below)
}

// product writes the pairs down in the order of the document, and their tables from them.
func product(a, b impl.System) impl.System {
	pairs := pairsOf(a, b)
	number := func(x, y int) int { return slices.Index(pairs, [2]int{x, y}) }
	s := impl.System{Size: len(pairs)}
	for _, p := range pairs {
		for _, q := range pairs {
			i, j := p[0]*a.Size+q[0], p[1]*b.Size+q[1]
			s.Plus = append(s.Plus, number(a.Plus[i], b.Plus[j]))
			s.Times = append(s.Times, number(a.Times[i], b.Times[j]))
			s.Below = append(s.Below, a.Below[i] && b.Below[j])
		}
	}
	return s
}

func pairsOf(a, b impl.System) [][2]int {
	pairs := [][2]int{{0, 0}, {1, 1}}
	for x := 0; x < a.Size; x++ {
		for y := 0; y < b.Size; y++ {
			if p := [2]int{x, y}; p != pairs[0] && p != pairs[1] {
				pairs = append(pairs, p)
			}
		}
	}
	return pairs
}

// goodSystems are systems of all kinds.
func goodSystems() map[string]impl.System {
	m := map[string]impl.System{
		"upsideDown": upsideDown, "fading": fading, "askew": askew,
		"sumsLost": sumsLost, "factorsLost": factorsLost, "ordersLost": ordersLost,
	}
	for _, n := range []int{1, 2, 3, 5} {
		m["count "+strconv.Itoa(n)] = impl.CountSystem(n)
		m["bound "+strconv.Itoa(n)] = impl.BoundSystem(n)
		m["level "+strconv.Itoa(n)] = impl.LevelSystem(n)
	}
	m["count 1*level 1"] = product(impl.CountSystem(1), impl.LevelSystem(1))
	m["level 1*level 1"] = product(impl.LevelSystem(1), impl.LevelSystem(1))
	m["bound 1*upsideDown"] = product(impl.BoundSystem(1), upsideDown)
	m["level 1*askew"] = product(impl.LevelSystem(1), askew)
	return m
}

// badSystems are no systems; the reason is the key.
func badSystems() map[string]impl.System {
	bound := impl.BoundSystem(2)
	change := func(f func(s *impl.System)) impl.System {
		s := copyOf(bound)
		f(&s)
		return s
	}
	return map[string]impl.System{
		"zero":             {},
		"size 1":           tables(1, "0", "0", "1"),
		"size 0":           change(func(s *impl.System) { s.Size = 0 }),
		"size negative":    change(func(s *impl.System) { s.Size = -4 }),
		"size lesser":      change(func(s *impl.System) { s.Size = 3 }),
		"size greater":     change(func(s *impl.System) { s.Size = 5 }),
		"size 17":          chain(0, 16, 15, 14, 13, 12, 11, 10, 9, 8, 7, 6, 5, 4, 3, 2, 1),
		"size 1 << 32":     change(func(s *impl.System) { s.Size = 1 << 32 }),
		"size greatest":    change(func(s *impl.System) { s.Size = 1<<63 - 1 }),
		"size least":       change(func(s *impl.System) { s.Size = -1 << 63 }),
		"no plus":          change(func(s *impl.System) { s.Plus = nil }),
		"no times":         change(func(s *impl.System) { s.Times = nil }),
		"no below":         change(func(s *impl.System) { s.Below = nil }),
		"plus short":       change(func(s *impl.System) { s.Plus = s.Plus[:15] }),
		"times short":      change(func(s *impl.System) { s.Times = s.Times[:15] }),
		"below short":      change(func(s *impl.System) { s.Below = s.Below[:15] }),
		"plus long":        change(func(s *impl.System) { s.Plus = append(s.Plus, 0) }),
		"times long":       change(func(s *impl.System) { s.Times = append(s.Times, 0) }),
		"below long":       change(func(s *impl.System) { s.Below = append(s.Below, true) }),
		"plus negative":    change(func(s *impl.System) { s.Plus[15] = -1 }),
		"times negative":   change(func(s *impl.System) { s.Times[15] = -1 }),
		"plus too great":   change(func(s *impl.System) { s.Plus[15] = 4 }),
		"times too great":  change(func(s *impl.System) { s.Times[15] = 4 }),
		"plus far too big": change(func(s *impl.System) { s.Plus[0] = 1<<63 - 1 }),
		"times far below":  change(func(s *impl.System) { s.Times[0] = -1 << 63 }),
	}
}

// lawBreakers are tables in which all laws but one hold: brokenLaws says so, and TestIsSystem checks it. (A table
// that breaks the reflexive law alone does not exist: joins give a grade above 1, with products 0 below 0, and sums
// then each grade below itself.)
func lawBreakers() map[string]impl.System {
	return map[string]impl.System{
		"sums associative":        tables(4, "0123 1112 2122 3223", "0000 0123 0223 0333", "1001 0111 0011 0001"),
		"sums commutative":        tables(2, "01 01", "00 01", "10 11"),
		"sum with 0":              tables(2, "00 01", "00 01", "10 11"),
		"products associative":    tables(4, "0123 1113 2123 3333", "0000 0123 0223 0313", "1000 1110 1010 1111"),
		"1 times":                 tables(3, "012 111 212", "000 011 022", "100 111 101"),
		"times 1":                 tables(3, "012 112 222", "000 012 012", "111 011 001"),
		"0 times":                 tables(3, "012 112 222", "002 012 022", "111 011 001"),
		"times 0":                 tables(3, "012 112 222", "000 012 222", "100 110 111"),
		"a * (b + c)":             tables(4, "0123 1111 2122 3123", "0000 0123 0223 0323", "1011 0110 0010 0011"),
		"(a + b) * c":             tables(4, "0123 1133 2323 3333", "0000 0123 0222 0333", "1000 1100 1010 1111"),
		"antisymmetric":           tables(2, "01 10", "00 01", "11 11"),
		"transitive":              tables(4, "0123 1113 2123 3333", "0000 0123 0222 0323", "1011 0101 0111 0001"),
		"sums keep the order":     tables(2, "01 10", "00 01", "11 01"),
		"products keep it, left":  tables(4, "0123 1121 2222 3123", "0000 0123 0222 0333", "1001 0101 1111 0001"),
		"products keep it, right": tables(4, "0123 1121 2222 3123", "0000 0123 0223 0323", "1010 0110 0010 0011"),
		"joins":                   tables(2, "01 10", "00 01", "10 01"),
	}
}

// brokenLaws returns the laws of systems that do not hold in the tables, written as the document has them.
func brokenLaws(s impl.System) map[string]bool {
	broken := map[string]bool{}
	law := func(name string, holds bool) {
		if !holds {
			broken[name] = true
		}
	}
	n := s.Size
	plus := func(a, b int) int { return s.Plus[a*n+b] }
	times := func(a, b int) int { return s.Times[a*n+b] }
	below := func(a, b int) bool { return s.Below[a*n+b] }
	for a := 0; a < n; a++ {
		law("sum with 0", plus(0, a) == a)
		law("1 times", times(1, a) == a)
		law("times 1", times(a, 1) == a)
		law("0 times", times(0, a) == 0)
		law("times 0", times(a, 0) == 0)
		law("reflexive", below(a, a))
		for b := 0; b < n; b++ {
			law("sums commutative", plus(a, b) == plus(b, a))
			law("antisymmetric", a == b || !below(a, b) || !below(b, a))
			law("joins", slowJoin(s, a, b) >= 0)
			for c := 0; c < n; c++ {
				law("sums associative", plus(plus(a, b), c) == plus(a, plus(b, c)))
				law("products associative", times(times(a, b), c) == times(a, times(b, c)))
				law("a * (b + c)", times(a, plus(b, c)) == plus(times(a, b), times(a, c)))
				law("(a + b) * c", times(plus(a, b), c) == plus(times(a, c), times(b, c)))
				law("transitive", !below(a, b) || !below(b, c) || below(a, c))
				law("sums keep the order", !below(a, b) || below(plus(a, c), plus(b, c)))
				law("products keep it, right", !below(a, b) || below(times(a, c), times(b, c)))
				law("products keep it, left", !below(a, b) || below(times(c, a), times(c, b)))
			}
		}
	}
	return broken
}

func slowJoin(s impl.System, a, b int) int {
	n := s.Size
	for j := 0; j < n; j++ {
		is := s.Below[a*n+j] && s.Below[b*n+j]
		for c := 0; c < n; c++ {
			is = is && (!s.Below[a*n+c] || !s.Below[b*n+c] || s.Below[j*n+c])
		}
		if is {
			return j
		}
	}
	return -1
}

func slowMeet(s impl.System, a, b int) int {
	n := s.Size
	for m := 0; m < n; m++ {
		is := s.Below[m*n+a] && s.Below[m*n+b]
		for c := 0; c < n; c++ {
			is = is && (!s.Below[c*n+a] || !s.Below[c*n+b] || s.Below[c*n+m])
		}
		if is {
			return m
		}
	}
	return -1
}

// slowIsView takes an ascending list of grades of a system.
func slowIsView(s impl.System, v []int) bool {
	in := func(g int) bool { return slices.Contains(v, g) }
	n := s.Size
	if !in(1) || in(0) {
		return false
	}
	for a := 0; a < n; a++ {
		for b := 0; b < n; b++ {
			if in(s.Plus[a*n+b]) != (in(a) || in(b)) || in(s.Times[a*n+b]) != (in(a) && in(b)) || in(a) && s.Below[a*n+b] && !in(b) {
				return false
			}
		}
	}
	return true
}

// subsets returns all ascending lists of numbers from 0 to n - 1, in ascending order.
func subsets(n int) [][]int {
	var all [][]int
	for bits := 0; bits < 1<<n; bits++ {
		var l []int
		for g := 0; g < n; g++ {
			if bits>>g&1 == 1 {
				l = append(l, g)
			}
		}
		all = append(all, l)
	}
	slices.SortFunc(all, slices.Compare[[]int])
	return all
}

// strange are numbers at and beyond the ends of a system with so many grades.
func strange(size int) []int {
	return []int{-1 << 63, -1 << 32, -size, -2, -1, size, size + 1, size * size, 1 << 32, 1<<63 - 1}
}

// unchanged fails the test if the call changes s, the spare room of its tables included.
func unchanged(t *testing.T, name string, s impl.System, call func(s impl.System)) {
	t.Helper()
	wide := impl.System{
		Size:  s.Size,
		Plus:  append(slices.Clone(s.Plus), -9, -9)[:len(s.Plus)],
		Times: append(slices.Clone(s.Times), -9, -9)[:len(s.Times)],
		Below: append(slices.Clone(s.Below), true, false)[:len(s.Below)],
	}
	call(wide)
	if !equalSystems(wide, s) {
		t.Errorf("%s changed its argument", name)
	}
	n := len(s.Plus)
	if !slices.Equal(wide.Plus[n:n+2], []int{-9, -9}) || !slices.Equal(wide.Times[n:n+2], []int{-9, -9}) || !slices.Equal(wide.Below[n:n+2], []bool{true, false}) {
		t.Errorf("%s wrote behind the end of its argument", name)
	}
}
