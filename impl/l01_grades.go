package impl

import (
	"slices"
	"strconv"
	"strings"
)

const MaxGrades = 16

type System struct {
	Size  int
	Plus  []int
	Times []int
	Below []bool
}

// gradeSet has the bit g for each grade g that is in it: MaxGrades bits suffice.
type gradeSet uint32

const (
	countWord = "count"
	boundWord = "bound"
	levelWord = "level"
)

// systemWords has the order in which FormatSystem tries the words.
var systemWords = [3]string{countWord, boundWord, levelWord}

// IsSystem reports whether s has tables of the right form and all laws hold in them.
func IsSystem(s System) bool {
	// The laws read the tables without bounds of their own, so the form comes first.
	return hasTables(s) && sumsHold(s) && productsHold(s) && sumsAndProductsHold(s) &&
		orderHolds(s) && orderIsKept(s) && joinsExist(s)
}

// IsGrade reports whether s is a system and g one of its grades.
func IsGrade(s System, g int) bool { return IsSystem(s) && inRange(g, s.Size) }

// AddGrades returns the sum of a and b, or -1.
func AddGrades(s System, a int, b int) int {
	if !areGrades(s, a, b) {
		return -1
	}
	return sumIn(s, a, b)
}

// MultiplyGrades returns the product of a and b, or -1.
func MultiplyGrades(s System, a int, b int) int {
	if !areGrades(s, a, b) {
		return -1
	}
	return productIn(s, a, b)
}

// IsBelow reports whether a is below b.
func IsBelow(s System, a int, b int) bool {
	return areGrades(s, a, b) && belowIn(s, a, b)
}

// JoinGrades returns the join of a and b, or -1.
func JoinGrades(s System, a int, b int) int {
	if !areGrades(s, a, b) {
		return -1
	}
	return joinIn(s, a, b)
}

// MeetGrades returns the meet of a and b, or -1: unlike joins, meets need not exist.
func MeetGrades(s System, a int, b int) int {
	if !areGrades(s, a, b) {
		return -1
	}
	return greatestOf(s, gradesUnder(s, a)&gradesUnder(s, b))
}

// SumGrades returns the sum of all elements of l, or -1.
func SumGrades(s System, l []int) int {
	if !areGrades(s, l...) {
		return -1
	}
	sum := 0
	for _, g := range l {
		sum = sumIn(s, sum, g)
	}
	return sum
}

// LeastGrade returns the grade that is below all others, or -1.
func LeastGrade(s System) int {
	if !IsSystem(s) {
		return -1
	}
	return leastOf(s, allGrades(s))
}

// CountSystem returns the system in which a number stands for just so many uses.
func CountSystem(n int) System {
	many := n + 1
	return numberSystem(n, func(a, b int) bool { return a == b || b == many })
}

// BoundSystem returns the system in which a number stands for at most so many uses.
func BoundSystem(n int) System {
	return numberSystem(n, func(a, b int) bool { return a <= b })
}

// LevelSystem returns the system of levels of secrecy, with 1 open to all.
func LevelSystem(n int) System {
	if n < 1 || n > MaxGrades-1 {
		return System{}
	}
	// place counts from the front of the order 0, n, n-1, .. 1, and also leads back from a place to its grade.
	place := func(g int) int {
		if g == 0 {
			return 0
		}
		return n + 1 - g
	}
	return buildSystem(n+1,
		func(a, b int) int { return place(max(place(a), place(b))) },
		func(a, b int) int { return place(min(place(a), place(b))) },
		func(a, b int) bool { return place(a) <= place(b) })
}

// PairGrades returns the number of the pair (x, y) in the product, or -1.
func PairGrades(a System, b System, x int, y int) int {
	if !haveProduct(a, b) || !inRange(x, a.Size) || !inRange(y, b.Size) {
		return -1
	}
	return numberOfPair(b.Size, x, y)
}

// PartsOfGrade returns the pair with the number g in the product, or -1 and -1.
func PartsOfGrade(a System, b System, g int) (int, int) {
	if !haveProduct(a, b) || !inRange(g, a.Size*b.Size) {
		return -1, -1
	}
	return pairOfNumber(b.Size, g)
}

// ProductSystem returns the system of the pairs of grades of a and b.
func ProductSystem(a System, b System) (System, bool) {
	if !haveProduct(a, b) {
		return System{}, false
	}
	byParts := func(inA, inB func(x, y int) int) func(g, h int) int {
		return func(g, h int) int {
			x, y := pairOfNumber(b.Size, g)
			u, v := pairOfNumber(b.Size, h)
			return numberOfPair(b.Size, inA(x, u), inB(y, v))
		}
	}
	plus := byParts(
		func(x, u int) int { return sumIn(a, x, u) },
		func(y, v int) int { return sumIn(b, y, v) })
	times := byParts(
		func(x, u int) int { return productIn(a, x, u) },
		func(y, v int) int { return productIn(b, y, v) })
	below := func(g, h int) bool {
		x, y := pairOfNumber(b.Size, g)
		u, v := pairOfNumber(b.Size, h)
		return belowIn(a, x, u) && belowIn(b, y, v)
	}
	return buildSystem(a.Size*b.Size, plus, times, below), true
}

// IsReliable reports whether 0 is reached, in s, from no other grades.
func IsReliable(s System) bool {
	if !IsSystem(s) {
		return false
	}
	for a := range s.Size {
		if a != 0 && belowIn(s, a, 0) {
			return false
		}
		for b := range s.Size {
			if sumIn(s, a, b) == 0 && (a != 0 || b != 0) {
				return false
			}
			if productIn(s, a, b) == 0 && a != 0 && b != 0 {
				return false
			}
		}
	}
	return true
}

// IsView reports whether v is the list of a view of s.
func IsView(s System, v []int) bool {
	return IsSystem(s) && isAscending(v, s.Size) && isViewSet(s, setOf(v))
}

// ViewsOf returns all views of s, in ascending order of their lists.
func ViewsOf(s System) [][]int {
	if !IsSystem(s) {
		return nil
	}
	return appendViews(nil, s, []int{1})
}

// IsMap reports whether f gives the grades of a grades of b so that everything stays as it is.
func IsMap(a System, b System, f []int) bool {
	if !IsSystem(a) || !IsSystem(b) || len(f) != a.Size || !allInRange(f, b.Size) {
		return false
	}
	if f[0] != 0 || f[1] != 1 {
		return false
	}
	for x := range a.Size {
		for y := range a.Size {
			if f[sumIn(a, x, y)] != sumIn(b, f[x], f[y]) || f[productIn(a, x, y)] != productIn(b, f[x], f[y]) {
				return false
			}
			if belowIn(a, x, y) && !belowIn(b, f[x], f[y]) {
				return false
			}
		}
	}
	return true
}

// ParseSystem returns the system with the text t.
func ParseSystem(t string) (System, bool) {
	first, second, isProduct := strings.Cut(t, "*")
	a, ok := parseNamedSystem(first)
	if !ok || !isProduct {
		return a, ok
	}
	b, ok := parseNamedSystem(second)
	if !ok {
		return System{}, false
	}
	return ProductSystem(a, b)
}

// FormatSystem returns the first text of s, or the empty string.
func FormatSystem(s System) string {
	named := namedSystems()
	for _, x := range named {
		if sameSystems(x.system, s) {
			return x.text
		}
	}
	for _, x := range named {
		for _, y := range named {
			if x.system.Size*y.system.Size != s.Size {
				continue
			}
			if p, ok := ProductSystem(x.system, y.system); ok && sameSystems(p, s) {
				return x.text + "*" + y.text
			}
		}
	}
	return ""
}

// hasTables reports whether all that the laws read is there and in range.
func hasTables(s System) bool {
	if s.Size < 2 || s.Size > MaxGrades {
		return false
	}
	cells := s.Size * s.Size
	return len(s.Plus) == cells && len(s.Times) == cells && len(s.Below) == cells &&
		allInRange(s.Plus, s.Size) && allInRange(s.Times, s.Size)
}

func sumsHold(s System) bool {
	for a := range s.Size {
		if sumIn(s, 0, a) != a {
			return false
		}
		for b := range s.Size {
			if sumIn(s, a, b) != sumIn(s, b, a) {
				return false
			}
			for c := range s.Size {
				if sumIn(s, sumIn(s, a, b), c) != sumIn(s, a, sumIn(s, b, c)) {
					return false
				}
			}
		}
	}
	return true
}

func productsHold(s System) bool {
	for a := range s.Size {
		if productIn(s, 1, a) != a || productIn(s, a, 1) != a {
			return false
		}
		if productIn(s, 0, a) != 0 || productIn(s, a, 0) != 0 {
			return false
		}
		for b := range s.Size {
			for c := range s.Size {
				if productIn(s, productIn(s, a, b), c) != productIn(s, a, productIn(s, b, c)) {
					return false
				}
			}
		}
	}
	return true
}

// sumsAndProductsHold checks both laws: products need not be commutative.
func sumsAndProductsHold(s System) bool {
	for a := range s.Size {
		for b := range s.Size {
			for c := range s.Size {
				if productIn(s, a, sumIn(s, b, c)) != sumIn(s, productIn(s, a, b), productIn(s, a, c)) {
					return false
				}
				if productIn(s, sumIn(s, a, b), c) != sumIn(s, productIn(s, a, c), productIn(s, b, c)) {
					return false
				}
			}
		}
	}
	return true
}

func orderHolds(s System) bool {
	for a := range s.Size {
		if !belowIn(s, a, a) {
			return false
		}
		for b := range s.Size {
			if !belowIn(s, a, b) {
				continue
			}
			if a != b && belowIn(s, b, a) {
				return false
			}
			if gradesAbove(s, b)&^gradesAbove(s, a) != 0 {
				return false
			}
		}
	}
	return true
}

// orderIsKept reports whether sums and products of what is below are below.
func orderIsKept(s System) bool {
	for a := range s.Size {
		for b := range s.Size {
			if !belowIn(s, a, b) {
				continue
			}
			for c := range s.Size {
				if !belowIn(s, sumIn(s, a, c), sumIn(s, b, c)) ||
					!belowIn(s, productIn(s, a, c), productIn(s, b, c)) ||
					!belowIn(s, productIn(s, c, a), productIn(s, c, b)) {
					return false
				}
			}
		}
	}
	return true
}

func joinsExist(s System) bool {
	for a := range s.Size {
		for b := range s.Size {
			if joinIn(s, a, b) < 0 {
				return false
			}
		}
	}
	return true
}

// sumIn, productIn, belowIn and joinIn take a system and grades of it for granted.
func sumIn(s System, a int, b int) int { return s.Plus[a*s.Size+b] }

func productIn(s System, a int, b int) int { return s.Times[a*s.Size+b] }

func belowIn(s System, a int, b int) bool { return s.Below[a*s.Size+b] }

func joinIn(s System, a int, b int) int {
	return leastOf(s, gradesAbove(s, a)&gradesAbove(s, b))
}

func areGrades(s System, l ...int) bool { return IsSystem(s) && allInRange(l, s.Size) }

func inRange(g int, size int) bool { return g >= 0 && g < size }

func allInRange(l []int, size int) bool {
	for _, g := range l {
		if !inRange(g, size) {
			return false
		}
	}
	return true
}

func isAscending(l []int, size int) bool {
	for i, g := range l {
		if !inRange(g, size) || i > 0 && l[i-1] >= g {
			return false
		}
	}
	return true
}

func (set gradeSet) has(g int) bool { return set>>g&1 != 0 }

func setOf(l []int) gradeSet {
	var set gradeSet
	for _, g := range l {
		set |= 1 << g
	}
	return set
}

func allGrades(s System) gradeSet { return 1<<s.Size - 1 }

func gradesAbove(s System, a int) gradeSet {
	var set gradeSet
	for b := range s.Size {
		if belowIn(s, a, b) {
			set |= 1 << b
		}
	}
	return set
}

func gradesUnder(s System, a int) gradeSet {
	var set gradeSet
	for b := range s.Size {
		if belowIn(s, b, a) {
			set |= 1 << b
		}
	}
	return set
}

// leastOf returns the grade of the set that is below each of the set; -1 if there is none.
func leastOf(s System, set gradeSet) int {
	for g := range s.Size {
		if set.has(g) && set&^gradesAbove(s, g) == 0 {
			return g
		}
	}
	return -1
}

// greatestOf returns the grade of the set that each of the set is below; -1 if there is none.
func greatestOf(s System, set gradeSet) int {
	for g := range s.Size {
		if set.has(g) && set&^gradesUnder(s, g) == 0 {
			return g
		}
	}
	return -1
}

func buildSystem(size int, plus, times func(a, b int) int, below func(a, b int) bool) System {
	s := System{
		Size:  size,
		Plus:  make([]int, size*size),
		Times: make([]int, size*size),
		Below: make([]bool, size*size),
	}
	for a := range size {
		for b := range size {
			s.Plus[a*size+b] = plus(a, b)
			s.Times[a*size+b] = times(a, b)
			s.Below[a*size+b] = below(a, b)
		}
	}
	return s
}

// numberSystem returns the zero System for an n that has no system.
func numberSystem(n int, below func(a, b int) bool) System {
	if n < 1 || n > MaxGrades-2 {
		return System{}
	}
	// Many is n + 1, and as a number it absorbs just as many does, so it needs no case of its own.
	many := n + 1
	return buildSystem(many+1,
		func(a, b int) int { return min(a+b, many) },
		func(a, b int) int { return min(a*b, many) },
		below)
}

// haveProduct checks the systems first: then the sizes are too small to overflow.
func haveProduct(a System, b System) bool {
	return IsSystem(a) && IsSystem(b) && a.Size*b.Size <= MaxGrades
}

// numberOfPair moves the pair (1, 1) from its lexicographic place to the number 1.
func numberOfPair(sizeOfSecond int, x int, y int) int {
	place := x*sizeOfSecond + y
	placeOfOne := sizeOfSecond + 1
	switch {
	case place == placeOfOne:
		return 1
	case place > 0 && place < placeOfOne:
		return place + 1
	}
	return place
}

// pairOfNumber is the inverse of numberOfPair.
func pairOfNumber(sizeOfSecond int, g int) (int, int) {
	place := g
	placeOfOne := sizeOfSecond + 1
	switch {
	case g == 1:
		place = placeOfOne
	case g > 1 && g <= placeOfOne:
		place = g - 1
	}
	return place / sizeOfSecond, place % sizeOfSecond
}

// isViewSet looks at every pair of grades: those outside the set matter as much as those in it.
func isViewSet(s System, set gradeSet) bool {
	if !set.has(1) || set.has(0) {
		return false
	}
	for a := range s.Size {
		for b := range s.Size {
			if set.has(sumIn(s, a, b)) != (set.has(a) || set.has(b)) {
				return false
			}
			if set.has(productIn(s, a, b)) != (set.has(a) && set.has(b)) {
				return false
			}
			if set.has(a) && belowIn(s, a, b) && !set.has(b) {
				return false
			}
		}
	}
	return true
}

// appendViews appends the views whose lists begin with start, in ascending order: a list comes ahead of those that
// it is a beginning of.
func appendViews(views [][]int, s System, start []int) [][]int {
	if isViewSet(s, setOf(start)) {
		views = append(views, slices.Clone(start))
	}
	for g := start[len(start)-1] + 1; g < s.Size; g++ {
		views = appendViews(views, s, append(start, g))
	}
	return views
}

// namedSystem is a system that has a text of one part, with that text.
type namedSystem struct {
	text   string
	system System
}

// namedSystems returns them in the order of their texts.
func namedSystems() []namedSystem {
	var named []namedSystem
	for _, word := range systemWords {
		for n := 1; n < MaxGrades; n++ {
			if s := systemOfWord(word, n); s.Size > 0 {
				named = append(named, namedSystem{text: word + " " + strconv.Itoa(n), system: s})
			}
		}
	}
	return named
}

// systemOfWord returns the zero System for a word or an n that has no system.
func systemOfWord(word string, n int) System {
	switch word {
	case countWord:
		return CountSystem(n)
	case boundWord:
		return BoundSystem(n)
	case levelWord:
		return LevelSystem(n)
	}
	return System{}
}

func parseNamedSystem(t string) (System, bool) {
	word, digits, _ := strings.Cut(t, " ")
	n, ok := parseNumber(digits)
	if !ok {
		return System{}, false
	}
	s := systemOfWord(word, n)
	return s, s.Size > 0
}

func parseNumber(digits string) (int, bool) {
	n, err := strconv.Atoi(digits)
	// Atoi takes a plus sign and leading zeros, which no number in a text has.
	if err != nil || strconv.Itoa(n) != digits {
		return 0, false
	}
	return n, true
}

func sameSystems(a System, b System) bool {
	return a.Size == b.Size && slices.Equal(a.Plus, b.Plus) && slices.Equal(a.Times, b.Times) &&
		slices.Equal(a.Below, b.Below)
}
