package tests

import (
	"slices"
	"strconv"
	"strings"
	"testing"

	"loop.example/g03111/impl"
)

// lineCase is a line in a session, its answer, and the session behind it: if that is empty, the same one.
type lineCase struct{ before, line, answer, after string }

func checkLines(t *testing.T, cases []lineCase) {
	t.Helper()
	for _, c := range cases {
		x := sessionOf(t, c.before)
		want := x
		if c.after != "" {
			want = sessionOf(t, c.after)
		}
		behind, answer := executed(t, x, c.line)
		if answer != c.answer || !equalSessions(behind, want) {
			t.Errorf("%s: %q is %s, not %s, and leads to %s", c.before, c.line, answer, c.answer, sessionText(behind))
		}
		slow := slowSession{x}
		if answer := slow.answer(c.line); answer != c.answer || !equalSessions(slow.Session, want) {
			t.Errorf("%s: the second way of %q is %s, not %s, and leads to %s", c.before, c.line, answer, c.answer, sessionText(slow.Session))
		}
	}
}

// checkErrors has lines that are errors in the session.
func checkErrors(t *testing.T, before string, lines ...string) {
	t.Helper()
	var cases []lineCase
	for _, line := range lines {
		cases = append(cases, lineCase{before, line, "error", ""})
	}
	checkLines(t, cases)
}

func TestSystemLines(t *testing.T) {
	checkLines(t, []lineCase{
		{"count 1||0", "system bound 2", "ok", "bound 2||0"},
		{"count 1||0", "system count 1", "ok", ""},
		{"count 1||0", "system count 14", "ok", "count 14||0"},
		{"count 1||0", "system level 15", "ok", "level 15||0"},
		{"count 1||0", "system level 1*count 2", "ok", "level 1*count 2||0"},
		// No variables are left, even of the same system, and the term stays, whatever its grades and variables are.
		{"bound 2|n|x0", "system bound 2", "ok", "bound 2||x0"},
		{"bound 2|n !3.n|fun:3:>?.n!2.n(x1)", "system count 1", "ok", "count 1||fun:3:>?.n!2.n(x1)"},
		{"bound 2|n n n n n n n n|add(x7,box:?(1))", "system level 2*level 2", "ok", "level 2*level 2||add(x7,box:?(1))"},
		{"askew|!3.n|box:3(x0)", "system bound 1*bound 1", "ok", "bound 1*bound 1||box:3(x0)"},
	})
	checkErrors(t, "bound 2|n !3.n|fun:3:n(x1)",
		"system", "system ", "system  ", "system  bound 2", "system bound 2 ", "system bound  2", "system bound", "system bound ",
		"system bound 0", "system bound 15", "system count 15", "system level 16", "system bound 02", "system bound -1", "system Bound 2",
		"system bound2", "system bound 2*", "system *bound 2", "system level 3*level 4", "system bound 2 * bound 2", "system bound 2\n",
		"system level 1*level 1*level 1", "system ?", "system n", "system x0", "system 1", "system system bound 2", "system askew",
		"System bound 2", " system bound 2", "systembound 2", "system\tbound 2", "system,bound 2", "bound 2", "systems bound 2", "syste bound 2",
	)
	for i, text := range systemTexts() {
		x := sessionOf(t, richSession)
		behind, answer := executed(t, x, "system "+text)
		x.System, x.Ctx = tablesOfTexts()[i], nil
		if answer != "ok" || !equalSessions(behind, x) {
			t.Errorf("system %s is %s, and leads to %s", text, answer, sessionText(behind))
		}
	}
}

func TestVariableLines(t *testing.T) {
	checkLines(t, []lineCase{
		{"bound 2||x0", "variable n", "ok", "bound 2|n|x0"},
		{"bound 2|n|x0", "variable !1.n", "ok", "bound 2|!1.n n|x0"},
		{"bound 2|n !2.n|fun:?:n(x1)", "variable >3.n*n+nn", "ok", "bound 2|>3.n*n+nn n !2.n|fun:?:n(x1)"},
		{"bound 2|*nn +nn >0.nn|0", "variable !0.!3.n", "ok", "bound 2|!0.!3.n *nn +nn >0.nn|0"},
		{"bound 2|n|1", "variable n", "ok", "bound 2|n n|1"},
		{"count 14||1", "variable !15.n", "ok", "count 14|!15.n|1"},
		{"level 15||1", "variable >15.n!15.n", "ok", "level 15|>15.n!15.n|1"},
		{"count 1||1", "variable !2.n", "ok", "count 1|!2.n|1"},
		{"askew|n|1", "variable !3.n", "ok", "askew|!3.n n|1"},
		// Types of most codes.
		{"bound 2||1", "variable " + longType(40), "ok", "bound 2|" + longType(40) + "|1"},
		{"bound 2|n|1", "variable " + power(20), "ok", "bound 2|" + power(20) + " n|1"},
	})
	checkErrors(t, "bound 2|!1.n n|x0",
		"variable", "variable ", "variable  ", "variable  n", "variable n ", "variable nn", "variable n n", "variable n,n", "variable N",
		"variable x0", "variable 0", "variable ?", "variable !4.n", "variable >4.nn", "variable *n!15.n", "variable !16.n", "variable !-1.n",
		"variable !?.n", "variable >?.nn", "variable *n>?.nn", "variable +!?.nn", "variable !1n", "variable !.n", "variable !01.n", "variable *n",
		"variable >1.n", "variable !1.", "variable n\n", "variable "+longType(41), "variable "+power(21), "variable variable n",
		"Variable n", " variable n", "variablen", "variable\tn", "variables n", "var n", "n", "!1.n",
	)
	checkErrors(t, "count 1||0", "variable !3.n", "variable >3.nn", "variable !?.n")
	checkErrors(t, "level 15||0", "variable !16.n", "variable >16.nn", "variable >?.nn", "variable !?.n")
}

// TestSessionsOfMostVariables has sessions of all numbers of variables, and one variable more than there may be.
func TestSessionsOfMostVariables(t *testing.T) {
	types := strings.Fields("n !1.n *nn +nn >2.nn !3.n >0.n!1.n n")
	var put []string
	x := sessionOf(t, "bound 2||x7")
	for _, ty := range types {
		if _, answer := executed(t, x, "type"); answer != "error" {
			t.Errorf("x7 has the type %s in %q", answer, put)
		}
		var answer string
		if x, answer = executed(t, x, "variable "+ty); answer != "ok" {
			t.Fatalf("%d variables and %s: %s", len(put), ty, answer)
		}
		put = append([]string{ty}, put...)
		if !equalSessions(x, sessionOf(t, "bound 2|"+strings.Join(put, " ")+"|x7")) {
			t.Fatalf("variable %s leads to %s", ty, sessionText(x))
		}
	}
	all := "bound 2|" + strings.Join(put, " ")
	checkErrors(t, all+"|x7", "variable n", "variable !1.n", "variable !?.n", "variable", "variable nn", "step", "run", "infer")
	var boxedTypes []string
	for _, ty := range put {
		boxedTypes = append(boxedTypes, boxedText(ty))
	}
	checkLines(t, []lineCase{
		{all + "|x7", "type", "n 0 0 0 0 0 0 0 1", ""},
		{all + "|pair(x0,app(x3,x0))", "type", "*nn 3 0 0 1 0 0 0 0", ""},
		{all + "|pair(x7,app(x3,x0))", "type", "*nn 2 0 0 1 0 0 0 1", ""},
		{all + "|fun:1:n(x8)", "type", ">1.nn 0 0 0 0 0 0 0 1", ""},
		{all + "|add(x6,x7)", "fault", "2 -", ""},
		{all + "|x7", "fault", "0 -", ""},
		{all + "|fun:1:n(x8)", "fault", "0 -", ""},
		{all + "|split:1(x5,x9)", "fault", "0 -", ""},
		{all + "|add(x7,1)", "run", "error", ""},
		{all + "|add(2,1)", "run", "0 -", ""},
		{all + "|fun:?:n(x0)", "infer", "fun:1:n(x0)", all + "|fun:1:n(x0)"},
		{all + "|app(fun:?:n(x0),x7)", "step", "x7", all + "|x7"},
		{all + "|app(fun:?:n(x8),x0)", "normal", "x7 1", all + "|x7"},
		{all + "|app(x3,x7)", "box", "app(x3,box:2(x7))", "bound 2|" + strings.Join(boxedTypes, " ") + "|app(x3,box:2(x7))"},
		{all + "|x7", "show", "bound 2 x7", ""},
		{all + "|x7", "clear", "ok", "bound 2||x7"},
		{all + "|x7", "system bound 2", "ok", "bound 2||x7"},
		{all + "|x7", "term x6", "ok", all + "|x6"},
	})
	// Once they are gone, there is room again.
	y, _ := executed(t, x, "clear")
	for range 8 {
		y, _ = executed(t, y, "variable !3.n")
	}
	if y, answer := executed(t, y, "variable !3.n"); answer != "error" || len(y.Ctx) != 8 {
		t.Errorf("the ninth variable behind clear is %s", answer)
	}
}

func TestClearLines(t *testing.T) {
	checkLines(t, []lineCase{
		{"bound 2|n !1.n|x0", "clear", "ok", "bound 2||x0"},
		{"bound 2|>3.nn|fun:15:n(x8)", "clear", "ok", "bound 2||fun:15:n(x8)"},
		{"count 1||0", "clear", "ok", ""},
		{"askew|n n n n n n n n|app(1,1)", "clear", "ok", "askew||app(1,1)"},
	})
	checkErrors(t, "bound 2|n !1.n|x0", "clear ", " clear", "clear n", "clear 1", "Clear", "clear\n", "clea", "clears", "clear clear")
}

func TestTermLines(t *testing.T) {
	checkLines(t, []lineCase{
		{"bound 2|n|x0", "term add(x0,1)", "ok", "bound 2|n|add(x0,1)"},
		{"count 1||0", "term 2", "ok", "count 1||2"},
		{"count 1||0", "term 0", "ok", ""},
		// Variables that are not there, grades that the system does not have, grades that are open, and no type.
		{"count 1||0", "term x7", "ok", "count 1||x7"},
		{"count 1|n|0", "term fun:15:>?.n!15.n(box:?(x8))", "ok", "count 1|n|fun:15:>?.n!15.n(box:?(x8))"},
		{"count 1||0", "term app(1,box:?(1))", "ok", "count 1||app(1,box:?(1))"},
		{"askew|n|0", "term split:?(pair(1,2),x9)", "ok", "askew|n|split:?(pair(1,2),x9)"},
		{"bound 2||0", "term left:" + longType(40) + "(1)", "ok", "bound 2||left:" + longType(40) + "(1)"},
		{"bound 2||0", "term " + nested(399, "box:1(|)", "x7"), "ok", "bound 2||" + nested(399, "box:1(|)", "x7")},
	})
	checkErrors(t, "bound 2|n|fun:1:n(x1)",
		"term", "term ", "term  ", "term  0", "term 0 ", "term 0 0", "term 3", "term -1", "term 00", "term x8", "term x", "term x-1", "term y",
		"term add(0)", "term add(0,0,0)", "term add(0, 0)", "term add (0,0)", "term add(0,0", "term add(0,0))", "term Add(0,0)", "term box(0)",
		"term box:16(0)", "term box:-1(0)", "term fun:1(0)", "term fun:1:(0)", "term fun:1:nn(0)", "term fun:1:n(x9)", "term left:!16.n(0)",
		"term left:"+longType(41)+"(1)", "term "+nested(400, "box:1(|)", "1"), "term 0\n", "term term 0", "term n",
		"Term 0", " term 0", "term0", "term\t0", "terms 0", "ter 0", "0", "x0",
	)
}

func TestTypeLines(t *testing.T) {
	checkLines(t, []lineCase{
		{"count 1||0", "type", "n -", ""},
		{"bound 2||app(fun:2:n(add(x0,x0)),2)", "type", "n -", ""},
		{"bound 2||fun:2:n(add(x0,x0))", "type", ">2.nn -", ""},
		{"bound 2|n|add(x0,x0)", "type", "n 2", ""},
		{"bound 2|n|1", "type", "n 0", ""},
		{"bound 2|n !1.n n|add(x2,add(x0,x2))", "type", "n 1 0 2", ""},
		{"bound 2|n !1.n n|box:3(pair(x1,x0))", "type", "!3.*!1.nn 3 3 0", ""},
		{"bound 2|n n|add(x1,add(x1,add(x1,x1)))", "type", "n 0 3", ""},
		{"count 14|n|box:10(box:1(x0))", "type", "!10.!1.n 10", ""},
		{"level 2|n n|pair(x1,box:2(x0))", "type", "*n!2.n 2 1", ""},
		{"askew|n|box:3(box:2(x0))", "type", "!3.!2.n 2", ""},
		{"bound 2|" + longType(40) + "|x0", "type", longType(40) + " 1", ""},
	})
	for _, session := range []string{
		"bound 2||x0", "bound 2|n|x1", "bound 2|n|fun:1:n(x2)", "bound 2||fun:?:n(x0)", "bound 2||box:4(1)", "bound 2||left:!4.n(1)",
		"bound 2||left:!?.n(1)", "bound 2||add(1,box:1(1))", "bound 2||fun:1:n(add(x0,x0))", "bound 2||app(1,1)", "count 1||fun:1:n(0)",
		"bound 2|" + longType(40) + "|box:1(x0)", "bound 2|n|if(x0,x0,box:1(x0))",
	} {
		checkErrors(t, session, "type")
	}
	checkErrors(t, "bound 2|n|x0", "type ", " type", "type x0", "type n", "Type", "type\n", "typ", "types", "type type", "x0")
}

func TestFaultLines(t *testing.T) {
	checkLines(t, []lineCase{
		{"count 1||0", "fault", "0 -", ""},
		{"bound 2|n|add(x0,x0)", "fault", "0 -", ""},
		{"bound 2|n !1.n|open:1(x1,add(x0,x1))", "fault", "0 -", ""},
		// Terms that are none here.
		{"bound 2||x0", "fault", "1 -", ""},
		{"bound 2|n|add(1,add(x0,x1))", "fault", "1 -", ""},
		{"bound 2||add(1,box:4(1))", "fault", "1 -", ""},
		{"bound 2||fun:?:n(x0)", "fault", "1 -", ""},
		// Each other fault, at the root and within.
		{"bound 2||add(1,box:1(1))", "fault", "2 -", ""},
		{"bound 2||add(1,add(box:1(1),2))", "fault", "2 1", ""},
		{"bound 2||if(0,1,box:1(1))", "fault", "3 -", ""},
		{"bound 2||pair(1,app(fun:1:n(x0),box:1(1)))", "fault", "3 1", ""},
		{"bound 2||split:1(1,1)", "fault", "4 -", ""},
		{"bound 2||box:1(split:1(1,x0))", "fault", "4 0", ""},
		{"bound 2||case:1(1,1,1)", "fault", "5 -", ""},
		{"bound 2||if(0,0,add(case:1(1,0,0),1))", "fault", "5 2 0", ""},
		{"bound 2||app(1,1)", "fault", "6 -", ""},
		{"bound 2||if(0,0,add(1,app(1,1)))", "fault", "6 2 1", ""},
		{"bound 2||open:1(1,1)", "fault", "7 -", ""},
		{"bound 2||case:1(left:n(1),x0,open:1(x0,1))", "fault", "7 2", ""},
		{"bound 2||split:0(pair(1,1),1)", "fault", "8 -", ""},
		{"bound 2||app(fun:0:n(0),open:0(box:1(1),1))", "fault", "8 1", ""},
		{"bound 2||fun:1:n(add(x0,x0))", "fault", "9 -", ""},
		{"bound 2||app(fun:0:n(fun:0:n(x0)),1)", "fault", "9 0 0", ""},
		{"bound 2||" + nested(11, "if(0,0,|)", "fun:0:n(x0)"), "fault", "9" + strings.Repeat(" 2", 11), ""},
		{"count 1||fun:1:n(0)", "fault", "9 -", ""},
	})
	checkErrors(t, "bound 2||app(1,1)", "fault ", " fault", "fault 1", "Fault", "fault\n", "faul", "faults", "fault fault", "faultx")
}

func TestStepLines(t *testing.T) {
	checkLines(t, []lineCase{
		{"bound 2||app(fun:2:n(add(x0,x0)),2)", "step", "add(2,2)", "bound 2||add(2,2)"},
		{"bound 2||add(2,2)", "step", "1", "bound 2||1"},
		{"bound 2|n|pair(add(1,1),add(2,2))", "step", "pair(2,add(2,2))", "bound 2|n|pair(2,add(2,2))"},
		{"bound 2||if(add(1,1),add(1,1),1)", "step", "if(2,add(1,1),1)", "bound 2||if(2,add(1,1),1)"},
		// Types, grades and what variables there are do not matter.
		{"count 1||app(fun:?:>?.nn(add(x0,x3)),box:15(x1))", "step", "add(box:15(x1),x2)", "count 1||add(box:15(x1),x2)"},
		{"count 1|!1.n|split:0(pair(x0,x1),app(x1,x0))", "step", "app(x0,x1)", "count 1|!1.n|app(x0,x1)"},
		{"upsideDown||open:?(box:9(x7),pair(x0,x1))", "step", "pair(x7,x0)", "upsideDown||pair(x7,x0)"},
		{"bound 2||case:1(right:n(1),0,x0)", "step", "1", "bound 2||1"},
		// A step that leads back.
		{"bound 2||app(fun:0:n(app(x0,x0)),fun:0:n(app(x0,x0)))", "step", "app(fun:0:n(app(x0,x0)),fun:0:n(app(x0,x0)))", ""},
	})
	for _, term := range []string{"0", "x7", "fun:?:n(app(x0,1))", "add(1,x0)", "if(x0,1,2)", "app(pair(1,1),1)", "box:1(split:1(x0,x1))"} {
		checkErrors(t, "bound 2|n|"+term, "step")
	}
	checkErrors(t, "bound 2|n|add(1,1)", "step ", " step", "step 1", "Step", "step\n", "ste", "steps", "step step", "stepx")
	// Up to most nodes, and one more.
	for nodes := 399; nodes <= 401; nodes++ {
		for name, x := range growing(nodes) {
			after := textOf(slowContractAt(x, nil))
			c := lineCase{"bound 2|n|" + textOf(x), "step", after, "bound 2|n|" + after}
			if nodes > 400 {
				c.answer, c.after = "error", ""
			}
			t.Run(name, func(t *testing.T) { checkLines(t, []lineCase{c}) })
		}
	}
}

func TestNormalLines(t *testing.T) {
	const loop = "app(fun:0:n(app(x0,x0)),fun:0:n(app(x0,x0)))"
	steps300 := "pair(" + doublings(7) + ",pair(" + doublings(4) + ",pair(" + doublings(3) + "," + doublings(1) + ")))"
	checkLines(t, []lineCase{
		{"bound 2||app(fun:2:n(add(x0,x0)),2)", "normal", "1 2", "bound 2||1"},
		{"bound 2||add(2,2)", "normal", "1 1", "bound 2||1"},
		{"bound 2|n n|x7", "normal", "x7 0", ""},
		{"bound 2||0", "normal", "0 0", ""},
		{"count 1||fun:?:>?.nn(app(x0,box:?(x8)))", "normal", "fun:?:>?.nn(app(x0,box:?(x8))) 0", ""},
		{"count 1|n|app(fun:?:n(pair(x0,x8)),add(1,1))", "normal", "pair(2,x7) 2", "count 1|n|pair(2,x7)"},
		{"bound 2||app(fun:0:n(1)," + loop + ")", "normal", "1 1", "bound 2||1"},
		{"bound 2||" + doublings(7), "normal", "2 254", "bound 2||2"},
		// Most steps, and one more.
		{"bound 2|n|" + steps300, "normal", "pair(2,pair(1,pair(2,2))) 300", "bound 2|n|pair(2,pair(1,pair(2,2)))"},
		{"bound 2|n|pair(" + steps300 + ",add(1,1))", "normal", "error", ""},
		{"bound 2|n|" + doublings(8), "normal", "error", ""},
		{"bound 2|n|" + loop, "normal", "error", ""},
		{"bound 2||pair(" + loop + ",1)", "normal", "error", ""},
	})
	// Through most nodes, and through one more.
	for more, answer := range []string{"1 2", "error"} {
		body := leastTerm(impl.TmIf, numberTerm(0), numberTerm(1), boxed(more, copies(3, 2, 0)))
		x := leastTerm(impl.TmApp, leastTerm(impl.TmFun, body), boxed(197, variableTerm(7)))
		checkLines(t, []lineCase{{"bound 2||" + textOf(x), "normal", answer, []string{"bound 2||1", ""}[more]}})
	}
	checkErrors(t, "bound 2|n|add(1,1)", "normal ", " normal", "normal 300", "Normal", "normal\n", "norma", "normals", "normal normal")
}

func TestRunLines(t *testing.T) {
	checkLines(t, []lineCase{
		{"bound 2||app(fun:2:n(add(x0,x0)),2)", "run", "1 2", ""},
		{"count 1||0", "run", "0 -", ""},
		{"bound 2||pair(add(1,1),right:!1.n(box:2(1)))", "run", "pair(2,right:!1.n(box:2(1))) -", ""},
		{"bound 2||app(fun:3:n(add(x0,add(x0,x0))),1)", "run", "0 3", ""},
		{"bound 2||app(fun:0:n(1),2)", "run", "1 0", ""},
		// Cells in the order in which they were made.
		{"bound 2||app(fun:2:n(add(x0,x0)),app(fun:1:n(x0),1))", "run", "2 2 1 1", ""},
		{"bound 2||split:2(pair(1,2),add(x1,add(x1,x0)))", "run", "1 2 1", ""},
		{"bound 2||split:2(pair(1,2),add(x0,add(x0,x1)))", "run", "2 1 2", ""},
		{"bound 2||app(app(fun:1:n(fun:2:n(add(x1,add(x0,x0)))),1),2)", "run", "2 1 2", ""},
		{"bound 2||case:2(left:n(1),add(x0,x0),1)", "run", "2 2", ""},
		{"count 14||open:1(box:12(2)," + nested(11, "add(x0,|)", "x0") + ")", "run", "0 12", ""},
		{"level 2||box:2(app(fun:1:n(x0),1))", "run", "box:2(1) 2", ""},
		// The variables of the session are of no moment, but must not occur.
		{"bound 2|n >1.nn|add(1,1)", "run", "2 -", ""},
		{"bound 2|n|x0", "run", "error", ""},
		{"bound 2|n|add(1,x0)", "run", "error", ""},
		{"bound 2|n|if(0,1,x0)", "run", "error", ""},
		{"bound 2|n|fun:1:n(x0)", "run", "error", ""},
		{"bound 2||pair(1,fun:1:n(x0))", "run", "error", ""},
		{"bound 2||app(fun:1:n(add(x0,x0)),1)", "run", "error", ""},
		{"bound 2||app(fun:?:n(x0),1)", "run", "error", ""},
		{"bound 2||box:4(1)", "run", "error", ""},
		{"bound 2||add(1,box:1(1))", "run", "error", ""},
		{"bound 2||right:>1.nn(1)", "run", "error", ""},
	})
	for looks := 2999; looks <= 3001; looks++ {
		told, _, _ := strings.Cut(slowRun(impl.BoundSystem(2), parsed(t, looking(looks))), " ")
		if (told == "fails") != (looks > 3000) {
			t.Fatalf("%d looks tell %s", looks, told)
		}
		x := slowSession{sessionOf(t, "bound 2||"+looking(looks))}
		checkLines(t, []lineCase{{"bound 2||" + looking(looks), "run", x.answer("run"), ""}})
	}
	checkErrors(t, "bound 2|n|add(1,1)", "run ", " run", "run 1", "Run", "run\n", "ru", "runs", "run run", "runx")
}

func TestInferLines(t *testing.T) {
	checkLines(t, []lineCase{
		{"bound 2||app(fun:?:n(add(x0,x0)),2)", "infer", "app(fun:2:n(add(x0,x0)),2)", "bound 2||app(fun:2:n(add(x0,x0)),2)"},
		{"bound 2||app(fun:2:n(add(x0,x0)),2)", "infer", "app(fun:2:n(add(x0,x0)),2)", ""},
		{"bound 2||fun:3:n(x0)", "infer", "fun:3:n(x0)", ""},
		{"bound 2|n !1.n|box:?(left:!?.>?.nn(1))", "infer", "box:0(left:!0.>0.nn(1))", "bound 2|n !1.n|box:0(left:!0.>0.nn(1))"},
		{"bound 14||fun:?:n(" + nested(11, "add(x0,|)", "x0") + ")", "infer", "fun:12:n(" + nested(11, "add(x0,|)", "x0") + ")", "bound 14||fun:12:n(" + nested(11, "add(x0,|)", "x0") + ")"},
		{"level 2||fun:?:n(box:2(x0))", "infer", "fun:2:n(box:2(x0))", "level 2||fun:2:n(box:2(x0))"},
		{"fading||fun:?:n(box:2(box:2(x0)))", "infer", "fun:0:n(box:2(box:2(x0)))", "fading||fun:0:n(box:2(box:2(x0)))"},
		// No least grade, or another one than 0.
		{"count 1||fun:?:n(x0)", "infer", "error", ""},
		{"count 1||0", "infer", "error", ""},
		{"upsideDown||fun:?:n(x0)", "infer", "error", ""},
		// Variables of the session, grades of another system, opens that are not of 1, and no solution.
		{"bound 2|n|x0", "infer", "error", ""},
		{"bound 2|n|fun:?:n(add(x0,x1))", "infer", "error", ""},
		{"bound 2||fun:4:n(x0)", "infer", "error", ""},
		{"bound 2||fun:?:!4.n(0)", "infer", "error", ""},
		{"bound 2||open:?(box:?(1),x0)", "infer", "error", ""},
		{"bound 2||open:2(box:?(1),x0)", "infer", "error", ""},
		{"bound 2||fun:1:n(app(fun:?:n(add(x0,x0)),x0))", "infer", "error", ""},
		{"bound 2||app(fun:?:n(x0),box:?(1))", "infer", "error", ""},
	})
	checkErrors(t, "bound 2||fun:?:n(x0)", "infer ", " infer", "infer 1", "Infer", "infer\n", "infe", "infers", "infer infer", "inferx")
}

func TestBoxLines(t *testing.T) {
	twice := "fun:2:n(add(x0,x0))"
	inBox := "fun:1:!2.n(open:1(x0,add(x0,x0)))"
	arrows := func(n int) string { return nested(n, ">2.n|", "n") }
	checkLines(t, []lineCase{
		{"bound 2||" + twice, "box", inBox, "bound 2||" + inBox},
		{"bound 2||add(1,1)", "box", "add(1,1)", ""},
		{"bound 2|n !1.n|x1", "box", "x1", ""},
		{"bound 2|>2.nn n|app(x0,x1)", "box", "app(x0,box:2(x1))", "bound 2|>1.!2.nn n|app(x0,box:2(x1))"},
		{"bound 2|n >0.n>3.nn *n>1.nn|x0", "box", "x0", "bound 2|n >1.!0.n>1.!3.nn *n>1.!1.nn|x0"},
		{"bound 2|!2.>2.nn >1.!2.nn|" + twice, "box", inBox, "bound 2|!2.>1.!2.nn >1.!1.!2.nn|" + inBox},
		{"bound 2|n|fun:0:n(x1)", "box", "fun:1:!0.n(open:1(x0,x2))", "bound 2|n|fun:1:!0.n(open:1(x0,x2))"},
		{"level 2|>2.nn|app(x0,1)", "box", "app(x0,box:2(1))", "level 2|>1.!2.nn|app(x0,box:2(1))"},
		{"askew|>3.nn|app(x0,1)", "box", "app(x0,box:3(1))", "askew|>1.!3.nn|app(x0,box:3(1))"},
		// What is boxed may be boxed once more.
		{"bound 2|>1.!2.nn n|app(x0,box:2(x1))", "box", "app(x0,box:1(box:2(x1)))", "bound 2|>1.!1.!2.nn n|app(x0,box:1(box:2(x1)))"},
		// Terms without a type.
		{"bound 2|>2.nn|app(x0,x0)", "box", "error", ""},
		{"bound 2|>2.nn|app(x0,x1)", "box", "error", ""},
		{"bound 2|>2.nn|fun:?:n(x0)", "box", "error", ""},
		{"bound 2|>2.nn|fun:4:n(x0)", "box", "error", ""},
		{"bound 2|>2.nn|fun:1:n(add(x0,x0))", "box", "error", ""},
		// A type of the context that becomes as long as a type may be, or longer, at each place.
		{"bound 2|" + arrows(13) + "|" + twice, "box", inBox, "bound 2|" + boxedText(arrows(13)) + "|" + inBox},
		{"bound 2|" + arrows(14) + "|" + twice, "box", "error", ""},
		{"bound 2|>2.nn " + arrows(14) + "|" + twice, "box", "error", ""},
		{"bound 2|" + arrows(14) + " >2.nn|" + twice, "box", "error", ""},
		{"bound 2|>2.nn " + arrows(14) + " >2.nn|" + twice, "box", "error", ""},
		{"bound 2|>2.nn " + arrows(19) + " >2.nn|1", "box", "error", ""},
		{"bound 2|n n n n n n n " + arrows(14) + "|1", "box", "error", ""},
		{"bound 2|!1." + arrows(13) + "|1", "box", "error", ""},
		// A type within the term that becomes too long, and a term that does.
		{"bound 2|>2.nn|left:" + arrows(13) + "(1)", "box", "left:" + boxedText(arrows(13)) + "(1)", "bound 2|>1.!2.nn|left:" + boxedText(arrows(13)) + "(1)"},
		{"bound 2|>2.nn|left:" + arrows(14) + "(1)", "box", "error", ""},
		{"bound 2|>2.nn|" + nested(133, "app(x0,|)", "1"), "box", nested(133, "app(x0,box:2(|))", "1"), "bound 2|>1.!2.nn|" + nested(133, "app(x0,box:2(|))", "1")},
		{"bound 2|>2.nn|" + nested(134, "app(x0,|)", "1"), "box", "error", ""},
	})
	checkErrors(t, "bound 2|>2.nn|"+twice, "box ", " box", "box 1", "Box", "box\n", "bo", "boxes", "box box", "box:1(1)", "boxx")
}

// TestBoxedContexts has what follows in a session that was boxed.
func TestBoxedContexts(t *testing.T) {
	x := sessionOf(t, "bound 2|>2.nn n >0.!3.nn|app(x0,add(x1,app(x2,box:3(1))))")
	for _, c := range []struct{ line, answer string }{
		{"type", "n 1 2 2"},
		{"box", "app(x0,box:2(add(x1,app(x2,box:0(box:3(1))))))"},
		{"type", "n 1 2 2"},
		{"fault", "0 -"},
		{"term x0", "ok"},
		{"type", ">1.!2.nn 1 0 0"},
		{"term x2", "ok"},
		{"type", ">1.!0.!3.nn 0 0 1"},
		{"variable >1.!2.nn", "ok"},
		{"term if(x2,x0,x1)", "ok"},
		{"type", ">1.!2.nn 1 1 1 0"},
		{"box", "if(x2,x0,x1)"},
		{"type", ">1.!1.!2.nn 1 1 1 0"},
		{"term x3", "ok"},
		{"type", ">1.!1.!0.!3.nn 0 0 0 1"},
		{"box", "x3"},
		{"type", ">1.!1.!1.!0.!3.nn 0 0 0 1"},
		{"clear", "ok"},
		{"type", "error"},
	} {
		var answer string
		if x, answer = executed(t, x, c.line); answer != c.answer {
			t.Fatalf("%s is %s, not %s", c.line, answer, c.answer)
		}
	}
}

func TestShowLines(t *testing.T) {
	checkLines(t, []lineCase{
		{"count 1||0", "show", "count 1 0", ""},
		{"bound 2|n >1.nn|fun:?:>?.n!15.n(x8)", "show", "bound 2 fun:?:>?.n!15.n(x8)", ""},
		{"level 15||x7", "show", "level 15 x7", ""},
		{"count 1*level 1||app(1,1)", "show", "count 1*level 1 app(1,1)", ""},
		{"bound 2*bound 2|n|1", "show", "bound 2*bound 2 1", ""},
		{"upsideDown||0", "show", "? 0", ""},
		{"askew|!3.n|box:3(x0)", "show", "? box:3(x0)", ""},
		{"bound 1*upsideDown||x3", "show", "? x3", ""},
		{"bound 2||" + nested(133, "if(0,1,|)", "1"), "show", "bound 2 " + nested(133, "if(0,1,|)", "1"), ""},
	})
	for i, s := range tablesOfTexts() {
		x := slowSession{impl.Session{System: s, Term: numberTerm(1)}}
		if _, answer := impl.ExecuteLine(x.Session, "show"); answer != x.answer("show") {
			t.Errorf("show is %s for %s", answer, systemTexts()[i])
		}
	}
	checkErrors(t, "bound 2||0", "show ", " show", "show 1", "Show", "show\n", "sho", "shows", "show show", "showx")
}

// TestOtherLines has lines that differ by one byte, from a choice of bytes, from one that there is, or are put together
// from parts of some.
func TestOtherLines(t *testing.T) {
	x := sessionOf(t, richSession)
	var lines []string
	for _, line := range richLines() {
		for i := range len(line) + 1 {
			for _, c := range " \t\n\x00Aaz019?.*:x-" {
				lines = append(lines, line[:i]+string(c)+line[i:])
				if i < len(line) {
					lines = append(lines, line[:i]+string(c)+line[i+1:])
				}
			}
			lines = append(lines, line[:i], line[i:], line[:i]+line[min(i+1, len(line)):])
		}
		for _, other := range richLines() {
			lines = append(lines, line+other, line+" "+other, line+"\n"+other, word(line)+" "+other)
		}
		lines = append(lines, strings.ToUpper(line), strings.ToUpper(line[:1])+line[1:], line+"\r", "\ufeff"+line, line+"\u00a0", "\u00a0"+line)
		lines = append(lines, strings.ReplaceAll(line, " ", "\u00a0"), strings.ReplaceAll(line, " ", ""), strings.ReplaceAll(line, " ", "  "))
		lines = append(lines, line+" ", line+"  ", " "+line, "  "+line, word(line), word(line)+" ", word(line)+"  ", "\""+line+"\"", "#"+line)
	}
	lines = append(lines, "", " ", "  ", "\n", "\x00", "ok", "error", "what", "help", "quit", "types", "eval", "needs", "grades", "derive", "forget", "open")
	lines = append(lines, "\xff", "typ\xff", "système bound 2", "ｔｙｐｅ", strings.Repeat("type", 100000), strings.Repeat(" ", 100000), strings.Repeat("term ", 100000))
	errors := 0
	slices.Sort(lines)
	for _, line := range slices.Compact(lines) {
		slow := slowSession{x}
		want := slow.answer(line)
		if want == "error" {
			errors++
		}
		behind, answer := impl.ExecuteLine(x, line)
		if answer != want || !equalSessions(behind, slow.Session) {
			t.Errorf("%.80q is %s, not %s, and leads to %s", line, answer, want, sessionText(behind))
		}
	}
	if errors < 3000 {
		t.Errorf("only %d lines are errors", errors)
	}
}

// TestRichLines has a session in which no line of the table is an error.
func TestRichLines(t *testing.T) {
	want := map[string]string{
		"clear": "ok", "type": "n 0 0", "fault": "0 -", "step": "add(2,2)", "normal": "1 2", "run": "1 2",
		"infer": "app(fun:2:n(add(x0,x0)),2)", "box": "app(fun:1:!2.n(open:1(x0,add(x0,x0))),box:2(2))",
		"show": "bound 2 app(fun:2:n(add(x0,x0)),2)", "system count 2": "ok", "variable !1.n": "ok", "term pair(x0,1)": "ok",
	}
	for _, line := range richLines() {
		if _, answer := executed(t, sessionOf(t, richSession), line); answer != want[line] {
			t.Errorf("%q is %s", line, answer)
		}
	}
}

// TestLinesInEachSystem has systems with and without texts, and terms that ask for their grades.
func TestLinesInEachSystem(t *testing.T) {
	for name, s := range goodSystems() {
		for g := range 17 {
			for _, line := range richLines() {
				for _, text := range []string{"fun:" + strconv.Itoa(g%16) + ":n(add(x0,x1))", "box:" + strconv.Itoa(g%16) + "(app(x1,x0))"} {
					slow := slowSession{impl.Session{System: s, Ctx: [][]int{{0}, {3 + g%s.Size, 0, 0}}, Term: parsed(t, text)}}
					behind, answer := impl.ExecuteLine(slow.Session, line)
					if want := slow.answer(line); answer != want || !equalSessions(behind, slow.Session) {
						t.Fatalf("%s: %q is %s for %s, not %s, and leads to %s", name, line, answer, text, want, sessionText(behind))
					}
				}
			}
		}
	}
}
