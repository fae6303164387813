package parse

import (
	"fmt"
	"slices"
	"strconv"
	"strings"
	"testing"

	"footman/api"
)

var kindNames = strings.Fields("- Num Name At Unary Binary Sel Var Set Put If For Send Recv Out Halt Block Task All")

// show tells all that a node has, but for what is zero; of an At also that.
func show(n api.Node) string {
	s := []string{kindNames[n.Kind]}
	if n.Text != "" {
		s = append(s, n.Text)
	}
	for _, x := range n.Names {
		s = append(s, "to:"+x)
	}
	if n.Num != 0 {
		s = append(s, fmt.Sprintf("#%d", n.Num))
	}
	if n.Flags != 0 {
		s = append(s, fmt.Sprintf("f%d", n.Flags))
	}
	if len(n.Kids) > 0 {
		s = append(s, strings.ReplaceAll(fmt.Sprint(n.Kids), " ", ","))
	}
	return strings.Join(append(s, fmt.Sprintf("@%d", n.At)), " ")
}

func showAll(l []api.Node) []string {
	var s []string
	for _, n := range l {
		s = append(s, show(n))
	}
	return s
}

func expectTree(t *testing.T, src string, want ...string) {
	t.Helper()
	l, at, ok := Parse(src)
	if !ok || at != 0 || !slices.Equal(showAll(l), want) {
		t.Errorf("11.3: Parse(%q): %q, %d, %v; not %q", src, showAll(l), at, ok, want)
	}
}

// expectBody holds the tree of a task of statements: body is its text, with what its own nodes are but for the task's
// block, the task, the NAll; places count from body's beginning.
func expectBody(t *testing.T, body string, kids string, want ...string) {
	t.Helper()
	const head = "task t{"
	for n, s := range want {
		s, at, _ := strings.Cut(s, "@")
		place, err := strconv.Atoi(at)
		if err != nil {
			t.Fatal("no place:", want[n])
		}
		want[n] = fmt.Sprintf("%s@%d", s, place+len(head))
	}
	block := "Block "
	if kids != "" {
		block += "[" + kids + "] "
	}
	n := len(want)
	want = append(want, block+"@6", fmt.Sprintf("Task t [%d] @0", n), fmt.Sprintf("All [%d] @0", n+1))
	expectTree(t, head+body+"}", want...)
}

func TestSourcesWithoutTasks(t *testing.T) {
	for _, src := range []string{"", " ", "\n\n", "\t\r\n ", "# task a { ! }", "#\n # x\n"} {
		expectTree(t, src, "All @0")
	}
}

func TestTasks(t *testing.T) {
	expectTree(t, "task a{}", "Block @6", "Task a [0] @0", "All [1] @0")
	expectTree(t, "  task\n_b1 # name\n { # none\n }", "Block @19", "Task _b1 [0] @2", "All [1] @0")
	expectTree(t, "task a{}task b{}task a{}",
		"Block @6", "Task a [0] @0", "Block @14", "Task b [2] @8", "Block @22", "Task a [4] @16", "All [1,3,5] @0")
	expectTree(t, "task a { public x; x = 1; } task b { key k; halt; }",
		"Var x @9", "Num #1 @23", "Set x [1] @19", "Block [2] @7", "Task a [0,3] @0",
		"Var k #4 f13 @37", "Halt @44", "Block [6] @35", "Task b [5,7] @28", "All [4,8] @0")
}

// A task's block begins where its `{` does, ahead of its variables; it has statements alone.
func TestATasksBlock(t *testing.T) {
	expectTree(t, "task a{public x;secret y;}", "Var x @7", "Var y f1 @16", "Block @6", "Task a [0,1,2] @0", "All [3] @0")
	expectTree(t, "task a{key x;halt;{}}", "Var x #4 f13 @7", "Halt @13", "Block @18", "Block [1,2] @6", "Task a [0,3] @0", "All [4] @0")
}

func TestVariables(t *testing.T) {
	for _, c := range [][2]string{
		{"public x;", "Var x @7"},
		{"secret x;", "Var x f1 @7"},
		{"public x[3];", "Var x #3 f8 @7"},
		{"secret x[0x40];", "Var x #64 f9 @7"},
		{"public x[0];", "Var x f8 @7"},
		{"secret x[00];", "Var x f9 @7"},
		{"public x[4294967295];", "Var x #4294967295 f8 @7"},
		{"secret x[0xffffffff];", "Var x #4294967295 f9 @7"},
		{"input public x[1];", "Var x #1 f10 @7"},
		{"input secret x[65];", "Var x #65 f11 @7"},
		{"input public x[0];", "Var x f10 @7"},
		{"input secret x[0x0];", "Var x f11 @7"},
		{"input secret x[4294967295];", "Var x #4294967295 f11 @7"},
		{"key x;", "Var x #4 f13 @7"},
		{"\n public \n x [ # y\n 3 ] ;", "Var x #3 f8 @9"},
		{" input\tsecret x[3];", "Var x #3 f11 @8"},
		{"  key\nx\n;", "Var x #4 f13 @9"},
	} {
		expectTree(t, "task t{"+c[0]+"}", c[1], "Block @6", "Task t [0,1] @0", "All [2] @0")
	}
	expectTree(t, "task t{key a;input secret b[2];public a;secret c[9];public d;key a;halt;}",
		"Var a #4 f13 @7", "Var b #2 f11 @13", "Var a @31", "Var c #9 f9 @40", "Var d @52", "Var a #4 f13 @61", "Halt @67", "Block [6] @6", "Task t [0,1,2,3,4,5,7] @0", "All [8] @0")
}

func TestStatements(t *testing.T) {
	expectBody(t, "", "")
	expectBody(t, "x=1;", "1", "Num #1 @2", "Set x [0] @0")
	expectBody(t, "_y9 = x ;", "1", "Name x @6", "Set _y9 [0] @0")
	expectBody(t, "x[2]=3;", "2", "Num #2 @2", "Num #3 @5", "Put x [0,1] @0")
	expectBody(t, " x [i] = y[j];", "3", "Name i @4", "Name j @11", "At y [1] @9", "Put x [0,2] @1")
	expectBody(t, "x[x[0]]=0;", "3", "Num @4", "At x [0] @2", "Num @8", "Put x [1,2] @0")
	expectBody(t, "send m 7;", "1", "Num #7 @7", "Send m [0] @0")
	expectBody(t, "send m(x);", "1", "Name x @7", "Send m [0] @0")
	expectBody(t, "send m-x;", "2", "Name x @7", "Unary - [0] @6", "Send m [1] @0")
	expectBody(t, "send m m[1];", "2", "Num #1 @9", "At m [0] @7", "Send m [1] @0")
	expectBody(t, "recv m x;", "0", "Recv m to:x @0")
	expectBody(t, " recv\nx x\n;", "0", "Recv x to:x @1")
	expectBody(t, "out 0;", "1", "Num @4", "Out [0] @0")
	expectBody(t, "out(x);", "1", "Name x @4", "Out [0] @0")
	expectBody(t, "halt;", "0", "Halt @0")
	expectBody(t, "halt\t;halt;", "0,1", "Halt @0", "Halt @6")
}

func TestBlocks(t *testing.T) {
	expectBody(t, "{}", "0", "Block @0")
	expectBody(t, "{}{}", "0,1", "Block @0", "Block @2")
	expectBody(t, "{{}{halt;}}halt;", "3,4", "Block @1", "Halt @4", "Block [1] @3", "Block [0,2] @0", "Halt @11")
	expectBody(t, "x=1; { y=2; z=3; } out 4;", "1,6,8",
		"Num #1 @2", "Set x [0] @0", "Num #2 @9", "Set y [2] @7", "Num #3 @14", "Set z [4] @12", "Block [3,5] @5", "Num #4 @23", "Out [7] @19")
	expectBody(t, "for i in 3{}", "1", "Block @10", "For i #3 [0] @0")
	expectBody(t, " for i\nin 0 { halt; }", "2", "Halt @14", "Block [0] @12", "For i [1] @1")
	expectBody(t, "for i in 0xffffffff{out i;}", "3", "Name i @24", "Out [0] @20", "Block [1] @19", "For i #4294967295 [2] @0")
	expectBody(t, "for i in 2{for i in 3{}{}}", "4", "Block @21", "For i #3 [0] @11", "Block @23", "Block [1,2] @10", "For i #2 [3] @0")
}

func TestIf(t *testing.T) {
	expectBody(t, "if(1){}", "3", "Num #1 @3", "Block @5", "Block @0", "If [0,1,2] @0")
	expectBody(t, "if(1){}else{}", "3", "Num #1 @3", "Block @5", "Block @11", "If [0,1,2] @0")
	expectBody(t, " if ( x ) { halt; } else { halt; out 1; }", "7",
		"Name x @6", "Halt @12", "Block [1] @10", "Halt @27", "Num #1 @37", "Out [4] @33", "Block [3,5] @25", "If [0,2,6] @1")
	expectBody(t, " if(x){halt;}halt;", "4,5", "Name x @4", "Halt @7", "Block [1] @6", "Block @1", "If [0,2,3] @1", "Halt @13")
	expectBody(t, "if(1){if(2){}}else{if(3){}else{}}", "11",
		"Num #1 @3", "Num #2 @9", "Block @11", "Block @6", "If [1,2,3] @6", "Block [4] @5",
		"Num #3 @22", "Block @24", "Block @30", "If [6,7,8] @19", "Block [9] @18", "If [0,5,10] @0")
	expectBody(t, "if(1){if(2){}else{}}", "7",
		"Num #1 @3", "Num #2 @9", "Block @11", "Block @17", "If [1,2,3] @6", "Block [4] @5", "Block @0", "If [0,5,6] @0")
	expectBody(t, "if(1){}if(2){}else{}", "3,7",
		"Num #1 @3", "Block @5", "Block @0", "If [0,1,2] @0", "Num #2 @10", "Block @12", "Block @18", "If [4,5,6] @7")
}

// expectE is expectBody of an e alone; places count from its beginning.
func expectE(t *testing.T, e string, want ...string) {
	t.Helper()
	for n, s := range want {
		s, at, _ := strings.Cut(s, "@")
		place, _ := strconv.Atoi(at)
		want[n] = fmt.Sprintf("%s@%d", s, place+4)
	}
	n := len(want)
	expectBody(t, "out "+e+";", strconv.Itoa(n), append(want, fmt.Sprintf("Out [%d] @0", n-1))...)
}

func TestWhatIsNotReckoned(t *testing.T) {
	expectE(t, "0", "Num @0")
	expectE(t, "4294967295", "Num #4294967295 @0")
	expectE(t, "0x00ff", "Num #255 @0")
	expectE(t, "x", "Name x @0")
	expectE(t, "x[0]", "Num @2", "At x [0] @0")
	expectE(t, "x [ y ]", "Name y @4", "At x [0] @0")
	expectE(t, "x[y[z]]", "Name z @4", "At y [0] @2", "At x [1] @0")
	expectE(t, "sel(a,b,c)", "Name a @4", "Name b @6", "Name c @8", "Sel [0,1,2] @0")
	expectE(t, "sel (1+2, -3, x[4])", "Num #1 @5", "Num #2 @7", "Binary + [0,1] @5", "Num #3 @11", "Unary - [3] @10", "Num #4 @16", "At x [5] @14", "Sel [2,4,6] @0")
	expectE(t, "sel(sel(1,2,3),4,5)", "Num #1 @8", "Num #2 @10", "Num #3 @12", "Sel [0,1,2] @4", "Num #4 @15", "Num #5 @17", "Sel [3,4,5] @0")
}

// Brackets make no node: what is in them has its own place.
func TestBrackets(t *testing.T) {
	expectE(t, "(x)", "Name x @1")
	expectE(t, "(((7)))", "Num #7 @3")
	expectE(t, "( x[1] )", "Num #1 @4", "At x [0] @2")
	expectE(t, "(1)+(2)", "Num #1 @1", "Num #2 @5", "Binary + [0,1] @1")
	expectE(t, "((1+2))*3", "Num #1 @2", "Num #2 @4", "Binary + [0,1] @2", "Num #3 @8", "Binary * [2,3] @2")
	expectE(t, "1-(2-3)", "Num #1 @0", "Num #2 @3", "Num #3 @5", "Binary - [1,2] @3", "Binary - [0,3] @0")
	expectE(t, "-(1+2)", "Num #1 @2", "Num #2 @4", "Binary + [0,1] @2", "Unary - [2] @0")
	expectE(t, "(-1)*2", "Num #1 @2", "Unary - [0] @1", "Num #2 @5", "Binary * [1,2] @1")
	expectE(t, "(sel((1),(2),(3)))", "Num #1 @6", "Num #2 @10", "Num #3 @14", "Sel [0,1,2] @1")
}

func TestSignsAhead(t *testing.T) {
	expectE(t, "-x", "Name x @1", "Unary - [0] @0")
	expectE(t, "~ 1", "Num #1 @2", "Unary ~ [0] @0")
	expectE(t, "--x", "Name x @2", "Unary - [0] @1", "Unary - [1] @0")
	expectE(t, "~-~x", "Name x @3", "Unary ~ [0] @2", "Unary - [1] @1", "Unary ~ [2] @0")
	expectE(t, "-x[1]", "Num #1 @3", "At x [0] @1", "Unary - [1] @0")
	expectE(t, "-sel(1,2,3)", "Num #1 @5", "Num #2 @7", "Num #3 @9", "Sel [0,1,2] @1", "Unary - [3] @0")
	expectE(t, "1--2", "Num #1 @0", "Num #2 @3", "Unary - [1] @2", "Binary - [0,2] @0")
	expectE(t, "1---2", "Num #1 @0", "Num #2 @4", "Unary - [1] @3", "Unary - [2] @2", "Binary - [0,3] @0")
	expectE(t, "-1-2", "Num #1 @1", "Unary - [0] @0", "Num #2 @3", "Binary - [1,2] @0")
	expectE(t, "-1*~2", "Num #1 @1", "Unary - [0] @0", "Num #2 @4", "Unary ~ [2] @3", "Binary * [1,3] @0")
	expectE(t, "1|~2|3", "Num #1 @0", "Num #2 @3", "Unary ~ [1] @2", "Binary | [0,2] @0", "Num #3 @5", "Binary | [3,4] @0")
}

var signsByLevels = [][]string{{"|"}, {"^"}, {"&"}, {"==", "!="}, {"<", "<=", ">", ">="}, {"<<", ">>"}, {"+", "-"}, {"*", "/", "%"}}

// eachTwoSigns goes through all pairs of signs, each with its level.
func eachTwoSigns(do func(a string, levelA int, b string, levelB int)) {
	for levelA, signsA := range signsByLevels {
		for _, a := range signsA {
			for levelB, signsB := range signsByLevels {
				for _, b := range signsB {
					do(a, levelA, b, levelB)
				}
			}
		}
	}
}

func TestEachTwoSigns(t *testing.T) {
	eachTwoSigns(func(a string, levelA int, b string, levelB int) {
		e := fmt.Sprintf("x %s y %s z", a, b)
		y, z := 3+len(a), 6+len(a)+len(b)
		first := []string{"Name x @0", fmt.Sprintf("Name y @%d", y)}
		if levelA >= levelB {
			first = append(first, "Binary "+a+" [0,1] @0", fmt.Sprintf("Name z @%d", z), "Binary "+b+" [2,3] @0")
		} else {
			first = append(first, fmt.Sprintf("Name z @%d", z), fmt.Sprintf("Binary %s [1,2] @%d", b, y), "Binary "+a+" [0,3] @0")
		}
		expectE(t, e, first...)
	})
}

// Signs ahead bind tighter than all others.
func TestEachSignBehindASignAhead(t *testing.T) {
	for _, signs := range signsByLevels {
		for _, s := range signs {
			for _, ahead := range []string{"-", "~"} {
				e := fmt.Sprintf("%sx %s %sy", ahead, s, ahead)
				expectE(t, e, "Name x @1", "Unary "+ahead+" [0] @0", fmt.Sprintf("Name y @%d", len(e)-1), fmt.Sprintf("Unary %s [2] @%d", ahead, len(e)-2), "Binary "+s+" [1,3] @0")
			}
		}
	}
}

// All levels at once: from the tightest to the loosest sign, and the other way round.
func TestAllLevels(t *testing.T) {
	expectE(t, "a*b+c<<d<e==f&g^h|i",
		"Name a @0", "Name b @2", "Binary * [0,1] @0", "Name c @4", "Binary + [2,3] @0", "Name d @7", "Binary << [4,5] @0", "Name e @9", "Binary < [6,7] @0",
		"Name f @12", "Binary == [8,9] @0", "Name g @14", "Binary & [10,11] @0", "Name h @16", "Binary ^ [12,13] @0", "Name i @18", "Binary | [14,15] @0")
	expectE(t, "a|b^c&d!=e>=f>>g-h%i",
		"Name a @0", "Name b @2", "Name c @4", "Name d @6", "Name e @9", "Name f @12", "Name g @15", "Name h @17", "Name i @19",
		"Binary % [7,8] @17", "Binary - [6,9] @15", "Binary >> [5,10] @12", "Binary >= [4,11] @9", "Binary != [3,12] @6", "Binary & [2,13] @4", "Binary ^ [1,14] @2", "Binary | [0,15] @0")
}

func TestManyFromTheLeft(t *testing.T) {
	const n = 4000
	l, at, ok := Parse("task a{out 1" + strings.Repeat("-1", n) + ";}")
	if !ok || at != 0 || len(l) != 2*n+5 {
		t.Fatal("11.2: a long row", len(l), at, ok)
	}
	for k := range n {
		if kids := l[2*k+2].Kids; kids[1] != 2*k+1 || kids[0] != max(2*k, 0) || l[2*k+2].At != 11 {
			t.Fatal("11.2: a long row", k, l[2*k+2])
		}
	}
}

const allKinds = "task a{public x;input secret y[3];key k;x=1;y[x]=~2;if(x<1){halt;}for i in 3{send m-sel(1,(2),3);recv m x;recv n y;}out(x)+y[0];{}}task b{}"

// spoil writes into all that was told, and into the room behind it.
func spoil(l []api.Node) {
	for n := range l {
		for k := range l[n].Kids {
			l[n].Kids[k] = -1
		}
		for k := range l[n].Names {
			l[n].Names[k] = "other"
		}
		for range 9 {
			_ = append(l[n].Kids, -2)
			_ = append(l[n].Names, "more")
			l[n].Kids = append(l[n].Kids, -3)
			l[n].Names = append(l[n].Names, "most")
		}
		l[n] = api.Node{Kind: api.NHalt, Text: "spoilt", Num: 9, Flags: 9, At: 9}
	}
	for range 99 {
		l = append(l, api.Node{Kind: api.NNum})
	}
}

func TestWhatIsToldIsNewMemory(t *testing.T) {
	src := strings.Clone(allKinds)
	first, _, _ := Parse(src)
	second, _, _ := Parse(src)
	want := showAll(first)
	spoil(first)
	third, _, _ := Parse(src)
	if !slices.Equal(showAll(second), want) || !slices.Equal(showAll(third), want) || src != allKinds {
		t.Error("R3: what was told shares memory with what is told")
	}
}

// No two lists of one answer share memory.
func TestListsOfOneAnswer(t *testing.T) {
	l, _, _ := Parse(allKinds)
	for n := range l {
		others := slices.Concat(slices.Clone(l[:n]), slices.Clone(l[n+1:]))
		want := showAll(others)
		kids, names := l[n].Kids[:cap(l[n].Kids)], l[n].Names[:cap(l[n].Names)]
		for k := range kids {
			kids[k]++
		}
		for k := range names {
			names[k] += "!"
		}
		if !slices.Equal(showAll(others), want) {
			t.Error("R3: lists share memory with those of node", n)
		}
	}
}

// Other calls between two of the same change nothing.
func TestNothingIsKept(t *testing.T) {
	srcs := []string{"", "x", allKinds, "task a{", "task a{x=1;}", "task a{out -(1+2)*3;}", "!", strings.Repeat(" ", api.MaxText+1), "task a{" + strings.Repeat("{", 30)}
	told := func(src string) string {
		l, at, ok := Parse(src)
		return fmt.Sprint(showAll(l), at, ok)
	}
	want := map[string]string{}
	for _, src := range srcs {
		want[src] = told(src)
	}
	for range 3 {
		for _, src := range slices.Backward(srcs) {
			if got := told(src); got != want[src] {
				t.Errorf("R1: of %q: %s, not %s", src, got, want[src])
			}
		}
	}
}

// Sources as long as may be, of whatever they are made, are told of soon.
func TestLongSources(t *testing.T) {
	for _, begin := range []string{"", "task a{", "task a{x=", "task a{public x;out 1", "task a{if("} {
		for _, part := range []string{"task ", "a ", "1", "{", "}", "{}", "(", ")", "-", "- ", "~", "[", "x[", "sel(", "+1", "<", "#", "!", "\x00", "\n", ";", "halt;", "x=1;", "if(1){", "if(1){}", "for i in 1{", "public x;", "key k;", "task a{}"} {
			src := begin + strings.Repeat(part, (api.MaxText-len(begin))/len(part))
			l, at, ok := Parse(src)
			if ok != (len(l) > 0) || ok && at != 0 || at < 0 || at > len(src) {
				t.Errorf("11.4: many of %q behind %q: %d nodes, %d, %v", part, begin, len(l), at, ok)
			}
		}
	}
}
