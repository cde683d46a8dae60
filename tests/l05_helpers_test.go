package tests

import (
	"math/rand"
	"slices"
	"strconv"
	"strings"
	"testing"

	"loop.example/g03111/impl"
)

// slowValues returns the texts of all values of a data type in their order, written as the document has them.
func slowValues(ty []int) []string {
	if ty[0] == 0 {
		return []string{"0", "1", "2"}
	}
	var all []string
	if ty[0] >= 19 {
		for _, v := range slowValues(ty[1:]) {
			all = append(all, "box:"+strconv.Itoa(ty[0]-19)+"("+v+")")
		}
		return all
	}
	left, right := slowParts(ty)
	if ty[0] == 1 {
		for _, v := range slowValues(left) {
			for _, w := range slowValues(right) {
				all = append(all, "pair("+v+","+w+")")
			}
		}
		return all
	}
	for _, v := range slowValues(left) {
		all = append(all, "left:"+typeText(right)+"("+v+")")
	}
	for _, v := range slowValues(right) {
		all = append(all, "right:"+typeText(left)+"("+v+")")
	}
	return all
}

// slowCount takes a data type, which may have far too many values to list them.
func slowCount(ty []int) int {
	switch {
	case ty[0] == 0:
		return 3
	case ty[0] >= 19:
		return slowCount(ty[1:])
	}
	left, right := slowParts(ty)
	if ty[0] == 1 {
		return slowCount(left) * slowCount(right)
	}
	return slowCount(left) + slowCount(right)
}

// slowDefault returns the text of the default term of a type.
func slowDefault(ty []int) string {
	switch {
	case ty[0] == 0:
		return "0"
	case ty[0] >= 19:
		return "box:" + strconv.Itoa(ty[0]-19) + "(" + slowDefault(ty[1:]) + ")"
	}
	left, right := slowParts(ty)
	switch ty[0] {
	case 1:
		return "pair(" + slowDefault(left) + "," + slowDefault(right) + ")"
	case 2:
		return "left:" + typeText(right) + "(" + slowDefault(left) + ")"
	}
	return "fun:" + strconv.Itoa(ty[0]-3) + ":" + typeText(left) + "(" + slowDefault(right) + ")"
}

// slowTypeOfValue returns the one data type whose value v is; nil if there is none. It takes a term for granted.
func slowTypeOfValue(v impl.Term) []int {
	var kids [][]int
	for _, kid := range v.Kids {
		ty := slowTypeOfValue(kid)
		if ty == nil {
			return nil
		}
		kids = append(kids, ty)
	}
	switch v.Op {
	case impl.TmNum:
		return []int{0}
	case impl.TmPair:
		return slices.Concat([]int{1}, kids[0], kids[1])
	case impl.TmLeft:
		return slices.Concat([]int{2}, kids[0], v.Type)
	case impl.TmRight:
		return slices.Concat([]int{2}, v.Type, kids[0])
	case impl.TmBox:
		return slices.Concat([]int{19 + v.N}, kids[0])
	}
	return nil
}

// slowIsValue takes a data type of a system of this size.
func slowIsValue(size int, ty []int, v impl.Term) bool {
	return slowIsTerm(v, size, false, 0) && slices.Equal(slowTypeOfValue(v), ty)
}

// dataTypes returns all data types of just so many codes in a system of this size.
func dataTypes(codes, size int) [][]int {
	if codes <= 1 {
		return [][]int{{0}}[:max(codes, 0)]
	}
	var all [][]int
	for _, ty := range dataTypes(codes-1, size) {
		for g := range size {
			all = append(all, slices.Concat([]int{19 + g}, ty))
		}
	}
	for n := 1; n < codes-1; n++ {
		for _, left := range dataTypes(n, size) {
			for _, right := range dataTypes(codes-1-n, size) {
				all = append(all, slices.Concat([]int{1}, left, right), slices.Concat([]int{2}, left, right))
			}
		}
	}
	return all
}

// upTo returns all data types of at most so many codes in a system of this size.
func upTo(codes, size int) [][]int {
	var all [][]int
	for n := range codes {
		all = append(all, dataTypes(n+1, size)...)
	}
	return all
}

// madeType returns a type of just so many codes in a system of this size, of as many forms as are handed over: boxes,
// pairs, sums and arrows, in this order.
func madeType(r *rand.Rand, codes, size, forms int) []int {
	if codes == 1 {
		return []int{0}
	}
	form := r.Intn(forms)
	if codes == 2 || form == 0 {
		return append([]int{19 + r.Intn(size)}, madeType(r, codes-1, size, forms)...)
	}
	code := []int{0, 1, 2, 3 + r.Intn(size)}[form]
	left := 1 + r.Intn(codes-2)
	return slices.Concat([]int{code}, madeType(r, left, size, forms), madeType(r, codes-1-left, size, forms))
}

// madeValue returns any value of a data type.
func madeValue(r *rand.Rand, ty []int) impl.Term {
	switch {
	case ty[0] == 0:
		return numberTerm(r.Intn(3))
	case ty[0] >= 19:
		return impl.Term{Op: impl.TmBox, N: ty[0] - 19, Kids: []impl.Term{madeValue(r, ty[1:])}}
	}
	left, right := slowParts(ty)
	switch {
	case ty[0] == 1:
		return leastTerm(impl.TmPair, madeValue(r, left), madeValue(r, right))
	case r.Intn(2) == 0:
		return impl.Term{Op: impl.TmLeft, Type: slices.Clone(right), Kids: []impl.Term{madeValue(r, left)}}
	}
	return impl.Term{Op: impl.TmRight, Type: slices.Clone(left), Kids: []impl.Term{madeValue(r, right)}}
}

// slowPlace returns the place of a value, without a list of them all.
func slowPlace(ty []int, v impl.Term) int {
	switch v.Op {
	case impl.TmNum:
		return v.N
	case impl.TmBox:
		return slowPlace(ty[1:], v.Kids[0])
	}
	left, right := slowParts(ty)
	switch v.Op {
	case impl.TmPair:
		return slowPlace(left, v.Kids[0])*slowCount(right) + slowPlace(right, v.Kids[1])
	case impl.TmLeft:
		return slowPlace(left, v.Kids[0])
	}
	return slowCount(left) + slowPlace(right, v.Kids[0])
}

// nearMisses returns terms that differ from t at one place: in what the term there is, in its grade, its type or its
// kids.
func nearMisses(t impl.Term) []impl.Term {
	var all []impl.Term
	miss := func(f func(x *impl.Term)) {
		x := copyOfTerm(t)
		f(&x)
		all = append(all, x)
	}
	for op := -1; op <= 13; op++ {
		miss(func(x *impl.Term) { x.Op = op })
	}
	for _, n := range []int{-1 << 63, -1, 0, 1, 2, 3, 4, 16, 1<<63 - 1} {
		miss(func(x *impl.Term) { x.N = n })
	}
	for _, ty := range [][]int{nil, {0}, {0, 0}, {1, 0, 0}, {2, 0, 0}, {3, 0, 0}, {35, 0, 0}, {19, 0}, {20, 0}, {21, 0}, {36, 0}, {-1}} {
		miss(func(x *impl.Term) { x.Type = ty })
	}
	miss(func(x *impl.Term) { x.Kids = nil })
	miss(func(x *impl.Term) { x.Kids = append(x.Kids, numberTerm(0)) })
	miss(func(x *impl.Term) { slices.Reverse(x.Kids) })
	miss(func(x *impl.Term) { *x = leastTerm(impl.TmAdd, t, numberTerm(0)) })
	miss(func(x *impl.Term) { *x = leastTerm(impl.TmIf, numberTerm(0), t, t) })
	miss(func(x *impl.Term) { *x = leastTerm(impl.TmApp, leastTerm(impl.TmFun, variableTerm(0)), t) })
	miss(func(x *impl.Term) { *x = leastTerm(impl.TmBox, t) })
	for k, kid := range t.Kids {
		for _, other := range nearMisses(kid) {
			miss(func(x *impl.Term) { x.Kids[k] = other })
		}
	}
	return all
}

// parsedType returns the type with a text that must be one.
func parsedType(t *testing.T, text string) []int {
	t.Helper()
	ty, ok := impl.ParseType(text)
	if !ok {
		t.Fatalf("ParseType(%q) fails", text)
	}
	return ty
}

// power is the text of a type with 3 to the power of n values.
func power(n int) string { return strings.Repeat("*n", n-1) + "n" }

// sumOf is the text of the sum of types, each but the last one to the left of all those behind it.
func sumOf(types ...string) string {
	last := len(types) - 1
	text := ""
	for _, part := range types[:last] {
		text += "+" + part
	}
	return text + types[last]
}
