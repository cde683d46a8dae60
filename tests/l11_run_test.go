package tests

import (
	"slices"
	"strconv"
	"strings"
	"testing"

	"loop.example/g03111/impl"
)

// checkRunSession has lines with their answers.
func checkRunSession(t *testing.T, cases [][2]string) {
	t.Helper()
	var lines, want []string
	for _, c := range cases {
		lines, want = append(lines, c[0]), append(want, c[1])
	}
	if got := impl.RunSession(lines); !slices.Equal(got, want) {
		for i := range min(len(got), len(want)) {
			if got[i] != want[i] {
				t.Errorf("line %d, %q, is %s, not %s", i, lines[i], got[i], want[i])
			}
		}
		t.Errorf("%d lines have %d answers", len(lines), len(got))
	}
}

func TestRunSession(t *testing.T) {
	checkRunSession(t, nil)
	if got := impl.RunSession([]string{}); len(got) != 0 {
		t.Errorf("no lines have answers: %q", got)
	}
	checkRunSession(t, [][2]string{
		{"system bound 2", "ok"}, {"term app(fun:?:n(add(x0,x0)),2)", "ok"}, {"infer", "app(fun:2:n(add(x0,x0)),2)"}, {"run", "1 2"},
	})
	// The session with which it begins.
	checkRunSession(t, [][2]string{
		{"show", "count 1 0"}, {"type", "n -"}, {"fault", "0 -"}, {"run", "0 -"}, {"normal", "0 0"}, {"step", "error"}, {"infer", "error"}, {"box", "0"},
	})
	checkRunSession(t, [][2]string{{"what", "error"}})
	checkRunSession(t, [][2]string{{"", "error"}, {"", "error"}, {"show", "count 1 0"}})
	// Errors change nothing, whatever they are.
	checkRunSession(t, [][2]string{
		{"system bound 2", "ok"}, {"variable >2.nn", "ok"}, {"variable " + nested(14, ">1.n|", "n"), "ok"}, {"term app(x1,fun:1:n(x0))", "ok"},
		{"type", "error"}, {"fault", "3 -"}, {"system bound 0", "error"}, {"variable !4.n", "error"}, {"term x8", "error"},
		{"step", "error"}, {"run", "error"}, {"infer", "error"}, {"box", "error"}, {"fault", "3 -"}, {"term app(x1,2)", "ok"}, {"type", "n 0 1"},
		{"box", "error"}, {"type", "n 0 1"}, {"show", "bound 2 app(x1,2)"}, {"what", "error"}, {"type ", "error"}, {"type", "n 0 1"},
		{"term x0", "ok"}, {"type", nested(14, ">1.n|", "n") + " 1 0"},
	})
	// Each line works on what the one ahead of it left.
	checkRunSession(t, [][2]string{
		{"system bound 2", "ok"}, {"variable n", "ok"}, {"variable !2.n", "ok"}, {"term open:1(x0,add(x0,add(x0,x2)))", "ok"}, {"type", "n 1 1"},
		{"clear", "ok"}, {"type", "error"}, {"fault", "1 -"}, {"variable n", "ok"}, {"type", "error"}, {"term add(x0,x0)", "ok"}, {"type", "n 2"},
		{"system level 2", "ok"}, {"type", "error"}, {"show", "level 2 add(x0,x0)"}, {"variable n", "ok"}, {"type", "n 1"},
		{"term app(app(fun:?:>?.nn(fun:?:n(app(x1,x0))),fun:?:n(add(x0,x0))),1)", "ok"}, {"type", "error"}, {"run", "error"},
		{"infer", "app(app(fun:1:>1.nn(fun:1:n(app(x1,x0))),fun:1:n(add(x0,x0))),1)"}, {"type", "n 0"}, {"run", "2 1 1 1"},
		{"step", "app(fun:1:n(app(fun:1:n(add(x0,x0)),x0)),1)"}, {"run", "2 1 1"}, {"step", "app(fun:1:n(add(x0,x0)),1)"},
		{"box", "app(fun:1:!1.n(open:1(x0,add(x0,x0))),box:1(1))"}, {"run", "2 1 1"}, {"normal", "2 3"}, {"show", "level 2 2"}, {"normal", "2 0"},
	})
}

// TestRunSessionLineByLine has long lists of lines, which are made for the session that they meet, against ExecuteLine
// and against a second way.
func TestRunSessionLineByLine(t *testing.T) {
	good, bad := map[string]int{}, map[string]int{}
	for seed := range 8 {
		m := newLineMaker(seed)
		slow := slowSession{impl.Session{System: written("count 1"), Term: numberTerm(0)}}
		x := impl.NewSession()
		var lines, answers []string
		for i := range 1000 {
			line := m.line(x)
			before := x
			var answer string
			if i%8 == 0 {
				x, answer = executed(t, x, line)
			} else {
				x, answer = impl.ExecuteLine(x, line)
			}
			if want := slow.answer(line); answer != want || !equalSessions(x, slow.Session) {
				t.Fatalf("%q is %s, not %s, in %s, and leads to %s", line, answer, want, sessionText(before), sessionText(x))
			}
			lines, answers = append(lines, line), append(answers, answer)
			if answer == "error" {
				bad[word(line)]++
			} else {
				good[word(line)]++
			}
		}
		kept := slices.Clone(lines)
		if got := impl.RunSession(lines); !slices.Equal(got, answers) {
			t.Fatalf("RunSession does not answer line by line: %q", lines)
		}
		if !slices.Equal(lines, kept) {
			t.Fatalf("RunSession changes its lines")
		}
		for n := 0; n < len(lines); n += 333 {
			if got := impl.RunSession(lines[:n]); !slices.Equal(got, answers[:n]) {
				t.Fatalf("RunSession of %d lines does not answer as that of more", n)
			}
		}
	}
	for _, w := range append(slices.Clone(linesWithoutText), wordsWithText...) {
		if good[w] < 80 || bad[w] < 12 && w != "clear" && w != "show" && w != "fault" {
			t.Errorf("%s has %d answers and %d errors", w, good[w], bad[w])
		}
	}
}

// TestExecuteLineInMadeSessions begins with sessions of systems without texts, too.
func TestExecuteLineInMadeSessions(t *testing.T) {
	for name, s := range goodSystems() {
		m := newLineMaker(len(name))
		maker := newTypedMaker(s)
		for range 12 {
			slow := slowSession{impl.Session{System: s, Ctx: maker.context(8), Term: numberTerm(0)}}
			slow.Term = m.term(slow.Session)
			for _, line := range append(richLines(), m.line(slow.Session), m.line(slow.Session)) {
				behind := slowSession{slow.Session}
				want := behind.answer(line)
				got, answer := impl.ExecuteLine(slow.Session, line)
				if answer != want || !equalSessions(got, behind.Session) {
					t.Fatalf("%s: %q is %s, not %s, in %s, and leads to %s", name, line, answer, want, sessionText(slow.Session), sessionText(got))
				}
			}
		}
	}
}

// TestRunSessionOfManyLines has more lines than anything else in a session has a limit for.
func TestRunSessionOfManyLines(t *testing.T) {
	var lines, want []string
	add := func(line, answer string) { lines, want = append(lines, line), append(want, answer) }
	add("system bound 2", "ok")
	for n := range 3000 {
		if n < 8 {
			add("variable n", "ok")
		} else {
			add("variable n", "error")
		}
	}
	for range 3000 {
		add("term app(fun:?:n(add(x0,x0)),x7)", "ok")
		add("type", "error")
		add("step", "add(x7,x7)")
		add("type", "n 0 0 0 0 0 0 0 2")
		add("what", "error")
	}
	add("term fun:1:n(x8)", "ok")
	for n := 1; n <= 60; n++ {
		// With 38 boxes the type of the function has 41 codes, which are one too many.
		if n > 38 {
			add("box", "error")
			continue
		}
		add("box", "fun:1:"+longType(n+1)+"("+nested(n, "open:1(x0,|)", "x"+strconv.Itoa(8+n))+")")
	}
	add("clear", "ok")
	add("type", "error")
	got := impl.RunSession(lines)
	if len(got) != len(want) {
		t.Fatalf("%d lines have %d answers", len(want), len(got))
	}
	for i := range got {
		if got[i] != want[i] {
			t.Fatalf("line %d, %q, is %s, not %s", i, lines[i], got[i], want[i])
		}
	}
	if got := impl.RunSession(slices.Repeat([]string{"show"}, 500)); strings.Join(got, "\n") != strings.TrimSpace(strings.Repeat("count 1 0\n", 500)) {
		t.Errorf("500 times show is %q", got)
	}
}
