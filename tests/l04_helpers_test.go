package tests

import (
	"slices"
	"strconv"
	"strings"
	"testing"

	"loop.example/g03111/impl"
)

// namedTerm is a term whose variables have names in place of indices. Each place that adds a variable has a name of
// its own for it, so that nothing is ever captured: this is a second way to contract, without any shift.
type namedTerm struct {
	op, n int
	ty    []int
	name  int
	added [][]int
	kids  []namedTerm
}

// namer gives names, each once.
type namer struct{ next int }

func (m *namer) fresh(n int) []int {
	var l []int
	for range n {
		l = append(l, m.next)
		m.next++
	}
	return l
}

// nameTerm takes the names of all variables, in the order of their indices.
func (m *namer) nameTerm(t impl.Term, env []int) namedTerm {
	x := namedTerm{op: t.Op, n: t.N, ty: t.Type}
	if t.Op == impl.TmVar {
		x.name, x.n = env[t.N], 0
	}
	for k, kid := range t.Kids {
		added := m.fresh(rows[t.Op].adds[k])
		x.added = append(x.added, added)
		x.kids = append(x.kids, m.nameTerm(kid, slices.Concat(added, env)))
	}
	return x
}

// unname takes back what nameTerm did.
func (x namedTerm) unname(env []int) impl.Term {
	t := impl.Term{Op: x.op, N: x.n, Type: x.ty}
	if x.op == impl.TmVar {
		t.N = slices.Index(env, x.name)
	}
	for k, kid := range x.kids {
		t.Kids = append(t.Kids, kid.unname(slices.Concat(x.added[k], env)))
	}
	return t
}

// with returns x with u in place of each variable that has the name.
func (x namedTerm) with(name int, u namedTerm) namedTerm {
	if x.op == impl.TmVar && x.name == name {
		return u
	}
	c := x
	c.kids = nil
	for _, kid := range x.kids {
		c.kids = append(c.kids, kid.with(name, u))
	}
	return c
}

// contract takes a redex.
func (x namedTerm) contract() namedTerm {
	head := x.kids[0]
	switch {
	case x.op == impl.TmAdd:
		return namedTerm{op: impl.TmNum, n: (head.n + x.kids[1].n) % 3}
	case x.op == impl.TmIf && head.n == 0:
		return x.kids[1]
	case x.op == impl.TmIf:
		return x.kids[2]
	case x.op == impl.TmApp:
		return head.kids[0].with(head.added[0][0], x.kids[1])
	case x.op == impl.TmSplit:
		first, second := x.added[1][1], x.added[1][0]
		return x.kids[1].with(first, head.kids[0]).with(second, head.kids[1])
	case x.op == impl.TmCase && head.op == impl.TmRight:
		return x.kids[2].with(x.added[2][0], head.kids[0])
	}
	return x.kids[1].with(x.added[1][0], head.kids[0])
}

// contractAt takes a path to a redex.
func (x namedTerm) contractAt(path []int) namedTerm {
	if len(path) == 0 {
		return x.contract()
	}
	c := x
	c.kids = slices.Clone(x.kids)
	c.kids[path[0]] = x.kids[path[0]].contractAt(path[1:])
	return c
}

// slowContractAt takes a written term and a path to a redex within it; what it returns may have too many nodes.
func slowContractAt(t impl.Term, path []int) impl.Term {
	var m namer
	root := m.fresh(8)
	return m.nameTerm(t, root).contractAt(path).unname(root)
}

// slowIsRedex looks at the form alone.
func slowIsRedex(t impl.Term) bool {
	if len(t.Kids) == 0 {
		return false
	}
	head := t.Kids[0].Op
	switch t.Op {
	case impl.TmAdd:
		return head == impl.TmNum && t.Kids[1].Op == impl.TmNum
	case impl.TmIf:
		return head == impl.TmNum
	case impl.TmApp:
		return head == impl.TmFun
	case impl.TmSplit:
		return head == impl.TmPair
	case impl.TmCase:
		return head == impl.TmLeft || head == impl.TmRight
	case impl.TmOpen:
		return head == impl.TmBox
	}
	return false
}

// place is a term within another one: where it stands, and how many variables are added on the way.
type place struct {
	path  []int
	term  impl.Term
	added int
}

// placesOf returns all terms within t, each ahead of its kids.
func placesOf(t impl.Term) []place {
	all := []place{{term: t}}
	for k, kid := range t.Kids {
		for _, p := range placesOf(kid) {
			p.path = slices.Concat([]int{k}, p.path)
			p.added += rows[t.Op].adds[k]
			all = append(all, p)
		}
	}
	return all
}

// slowReplaceAt takes a path that t has.
func slowReplaceAt(t impl.Term, path []int, u impl.Term) impl.Term {
	if len(path) == 0 {
		return u
	}
	t.Kids = slices.Clone(t.Kids)
	t.Kids[path[0]] = slowReplaceAt(t.Kids[path[0]], path[1:], u)
	return t
}

// sizeOf counts the nodes of any finite term.
func sizeOf(t impl.Term) int {
	n := 1
	for _, kid := range t.Kids {
		n += sizeOf(kid)
	}
	return n
}

// redexes puts redexes in place of about half of the terms that may become one.
func (m *termMaker) redexes(t impl.Term, variables int) impl.Term {
	made := func(op int) impl.Term {
		x := impl.Term{Op: op}
		if rows[op].graded {
			x.N, _ = m.grade()
		}
		if rows[op].typed {
			x.Type = slices.Clone(m.types[m.r.Intn(len(m.types))].ty)
		}
		for _, adds := range rows[op].adds {
			kid, _ := m.make(1+m.r.Intn(4), variables+adds)
			x.Kids = append(x.Kids, kid)
		}
		return x
	}
	t.Kids = slices.Clone(t.Kids)
	for k, kid := range t.Kids {
		t.Kids[k] = m.redexes(kid, variables+rows[t.Op].adds[k])
	}
	if m.r.Intn(2) == 0 {
		return t
	}
	switch t.Op {
	case impl.TmAdd:
		t.Kids[0], t.Kids[1] = numberTerm(m.r.Intn(3)), numberTerm(m.r.Intn(3))
	case impl.TmIf:
		t.Kids[0] = numberTerm(m.r.Intn(3))
	case impl.TmApp:
		t.Kids[0] = made(impl.TmFun)
	case impl.TmSplit:
		t.Kids[0] = made(impl.TmPair)
	case impl.TmCase:
		t.Kids[0] = made(impl.TmLeft + m.r.Intn(2))
	case impl.TmOpen:
		t.Kids[0] = made(impl.TmBox)
	}
	return t
}

// madeRedexes returns so many written terms, with redexes within most of them, and open grades.
func madeRedexes(t *testing.T, count int) []impl.Term {
	t.Helper()
	m := newTermMaker(16, true)
	var all []impl.Term
	for len(all) < count {
		x, _ := m.make(1+len(all)%40, 8)
		x = m.redexes(x, 8)
		if sizeOf(x) > 400 {
			continue
		}
		if !slowIsTerm(x, 16, true, 8) {
			t.Fatalf("%s is no written term", textOf(x))
		}
		all = append(all, x)
	}
	return all
}

// pathsText writes paths with full stops within and a space behind each of them.
func pathsText(paths [][]int) string {
	text := ""
	for _, path := range paths {
		text += "." + strings.Join(digitsOf(path), ".") + " "
	}
	return text
}

// checkTerm compares what a call returned with the text of a term, which is empty if the call must fail.
func checkTerm(t *testing.T, call string, got impl.Term, ok bool, want string) {
	t.Helper()
	if ok != (want != "") || ok && textOf(got) != want || !ok && !isZeroTerm(got) {
		t.Errorf("%s is %s, %v, not %s", call, textOf(got), ok, want)
	}
}

// copies is a term of just so many nodes, from 2 * uses - 1 on, with uses of the variables, which take turns.
func copies(nodes, uses int, variables ...int) impl.Term {
	x := variableTerm(variables[0])
	for i := 1; i < uses; i++ {
		x = leastTerm(impl.TmPair, variableTerm(variables[i%len(variables)]), x)
	}
	return boxed(nodes-sizeOf(x), x)
}

// boxed is a term within so many boxes.
func boxed(boxes int, t impl.Term) impl.Term {
	for range boxes {
		t = leastTerm(impl.TmBox, t)
	}
	return t
}

// badPaths are paths that no term has which has less than 400 nodes; the reason is the key.
func badPaths() map[string][]int {
	bad := map[string][]int{"a million": make([]int, 1000000)}
	for _, k := range []int{-1 << 63, -1 << 32, -2, -1, 3, 4, 1 << 32, 1<<63 - 1} {
		bad[strconv.Itoa(k)] = []int{k}
		bad["0, "+strconv.Itoa(k)] = []int{0, k}
		bad["1, "+strconv.Itoa(k)+", 0"] = []int{1, k, 0}
	}
	return bad
}
