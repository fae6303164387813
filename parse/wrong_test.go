package parse

import (
	"strings"
	"testing"

	"footman/api"
)

// mark stands in a source of a test ahead of the token that is wrong.
const mark = "¿"

func expectNone(t *testing.T, src string, want int) {
	t.Helper()
	if l, at, ok := Parse(src); ok || at != want || l != nil {
		t.Errorf("11.4: Parse(%q): %d nodes, %d, %v; not at %d", src, len(l), at, ok, want)
	}
}

func expectWrong(t *testing.T, marked string) {
	t.Helper()
	ahead, behind, ok := strings.Cut(marked, mark)
	if !ok || strings.Contains(behind, mark) {
		t.Fatalf("not one mark in %q", marked)
	}
	expectNone(t, ahead+behind, len(ahead))
}

func expectOK(t *testing.T, src string) {
	t.Helper()
	if l, at, ok := Parse(src); !ok || at != 0 || len(l) == 0 || l[len(l)-1].Kind != api.NAll {
		t.Errorf("11.4: Parse(%q): %d nodes, %d, %v", src, len(l), at, ok)
	}
}

func TestWhatMayNotStandInTasks(t *testing.T) {
	for _, s := range []string{
		"¿x", "¿{}", "¿;", "¿}", "¿task_ a{}", "¿Task a{}", "¿1", "¿halt;", "¿public x;", "¿a{}", "¿input", "¿=",
		"task¿", "task  # a\n¿", "task ¿{}", "task ¿task{}", "task ¿in{}", "task ¿1{}", "task ¿sel{}", "task ¿;",
		"task a¿", "task a ¿;", "task a ¿b{}", "task a ¿(){}", "task a ¿[1]{}", "task a ¿task b{}",
		"task a{¿", "task a{ \n¿", "task a{¿task b{}}", "task a{}¿}", "task a{}¿;", "task a{} ¿x=1;", "task a{}¿{}", "task a{} task¿", "task a{}task b{¿",
		"task a{¿;}", "task a{¿)}", "task a{¿1;}", "task a{¿else{}}", "task a{¿in;}", "task a{¿sel(1,2,3);}", "task a{¿-x;}", "task a{¿(x)=1;}", "task a{halt;¿;}", "task a{¿=1;}", "task a{¿[1]=1;}",
	} {
		expectWrong(t, s)
		expectWrong(t, "task x{public x;x=1;} # x\n"+s)
	}
}

func TestWhatMayNotStandInVariables(t *testing.T) {
	for _, s := range []string{
		"public¿", "public ¿;", "public ¿public x;", "public ¿input x[1];", "public ¿secret x;", "public ¿1;", "public ¿if;", "public ¿key k;", "public ¿[1];", "public ¿{",
		"public x¿", "public x ¿y;", "public x¿=1;", "public x¿,y;", "public x¿]", "public x ¿1x;", "public x ¿1;", "public x¿{",
		"public x[¿", "public x[¿]", "public x[¿y];", "public x[¿-1];", "public x[¿(1)];", "public x[¿4294967296];", "public x[¿in];", "public x[¿;",
		"public x[1¿", "public x[1¿;", "public x[1¿+1];", "public x[1 ¿2];", "public x[1¿,2];", "public x[1¿)",
		"public x[1]¿", "public x[1]¿[2];", "public x[1]¿}", "public x[1] ¿halt;", "public x[1]¿=1;",
		"secret¿", "secret ¿;", "secret ¿input x[1];", "secret x¿,", "secret x[¿x];", "secret ¿out x;",
		"input¿", "input ¿x;", "input ¿key k;", "input ¿input public x[1];", "input ¿;", "input ¿[1];", "input ¿out 1;",
		"input public¿", "input public ¿secret x[1];", "input public ¿[1];", "input public x¿", "input public x¿;", "input public x[¿];", "input public x[1¿;", "input public x[1]¿", "input public x[1]¿[",
		"input secret x¿;", "input secret x ¿y;", "input secret x¿=", "input secret x[¿key];", "input secret ¿public x;",
		"key¿", "key ¿;", "key ¿1;", "key ¿key;", "key ¿public k;", "key ¿secret k;", "key ¿input k;", "key k¿", "key k¿[4];", "key k ¿k;", "key k¿,", "key k¿}", "key k¿=1;", "key ¿for;",
		"halt;¿public x;", "{}¿secret x;", "x=1;¿key k;", "public y;x=1;¿input public x[1];", "{¿public x;}", "if(1){¿secret x;}", "if(1){}else{¿key x;}", "for i in 1{¿input public x[1];}", "key x;{¿key y;}",
	} {
		expectWrong(t, "task a {"+s)
		expectWrong(t, "task b{secret public_;} task a{public x; key x;"+s)
	}
}

func TestWhatMayNotStandInStatements(t *testing.T) {
	for _, s := range []string{
		"x¿", "x¿;", "x¿+=1;", "x¿==1;", "x ¿y=1;", "x¿(1);", "x ¿1;", "x¿}", "x ¿in", "x¿{", "x=¿", "x=¿;", "x=1¿", "x=1¿}", "x=1¿]=2;", "x=1¿,", "x=y¿=1;", "x=1¿)", "x=1 ¿halt;",
		"x[¿", "x[¿]=1;", "x[1¿", "x[1¿;", "x[1¿=1;", "x[1¿)=1;", "x[1¿,1]", "x[1]¿", "x[1]¿;", "x[1]¿[2]=1;", "x[1]¿==1;", "x[1]=¿", "x[1]=¿;", "x[1]=1¿", "x[1]=1¿}", "x[¿=1;",
		"if¿", "if ¿x{}", "if¿{}", "if(¿", "if(¿){}", "if(1¿", "if(1¿{}", "if(1¿;", "if(1)¿", "if(1)¿;", "if(1) ¿halt;", "if(1)¿)", "if(1) ¿else{}", "if(1){¿", "if(1){¿else{}", "if(1){}¿;", "if(x¿=1){}", "if(1¿,",
		"if(1){}else¿", "if(1){}else ¿;", "if(1){}else ¿if(1){}", "if(1){}else ¿x=1;", "if(1){}else{¿", "if(1){}else{¿else", "if(1){}else{}¿else{}", "if(1){}else ¿}", "if(1){} halt; ¿else{}", "if(1){}else ¿else{}",
		"for¿", "for ¿1", "for ¿in", "for ¿(i", "for ¿;", "for i¿", "for i¿=1", "for i ¿3{}", "for i ¿of 3{}", "for i¿{}", "for i in¿", "for i in ¿x{}", "for i in ¿{}", "for i in ¿(3){}", "for i in ¿-3{}", "for i in ¿;",
		"for i in 3¿", "for i in 3¿;", "for i in 3 ¿halt;", "for i in 3¿+1{}", "for i in 3 ¿x{}", "for i in 3{¿", "for i in 3{}¿;", "for i in 3{¿)", "for i in ¿3x{}", "for i in 3{} ¿else{}",
		"send¿", "send ¿;", "send ¿1;", "send ¿(1);", "send ¿send 1;", "send ¿-1;", "send m¿", "send m¿;", "send m¿,1;", "send m¿[1];", "send m¿=1;", "send m ¿out", "send m 1¿", "send m 1 ¿2;", "send m 1¿}", "send m 1¿,", "send m x ¿y;", "send m¿+1;",
		"recv¿", "recv ¿;", "recv ¿1;", "recv ¿in x;", "recv m¿", "recv m¿;", "recv m ¿1;", "recv m¿,x;", "recv m ¿(x);", "recv m ¿key;", "recv m¿=", "recv m x¿", "recv m x¿[1];", "recv m x ¿y;", "recv m x¿}", "recv m x¿=1;", "recv m x¿,",
		"out¿", "out ¿;", "out ¿out 1;", "out ¿}", "out ¿=1;", "out 1¿", "out 1¿,2;", "out 1 ¿2;", "out 1¿}", "out 1¿=1;", "out x ¿x;", "out ¿in;", "out ¿task;",
		"halt¿", "halt¿}", "halt ¿1;", "halt ¿halt;", "halt¿();", "halt¿,", "halt¿:", "halt;¿;",
		"{¿", "{halt;¿", "{}¿;", "{¿;}", "{{}¿", "{¿else{}}", "{¿)", "{¿task b{}", "{halt¿}",
	} {
		expectWrong(t, "task a{"+s)
		expectWrong(t, "task b{} task a{key k; halt; { for i in 1 { if(2){}else{"+s)
	}
}

func TestWhatMayNotStandInAnE(t *testing.T) {
	for _, s := range []string{
		"¿", "¿;", "¿{", "¿}", "¿=", "¿+1", "¿*1", "¿/1", "¿%1", "¿&1", "¿|1", "¿^1", "¿<1", "¿<=1", "¿>1", "¿>=1", "¿<<1", "¿>>1", "¿==1", "¿!=1", "¿[1]", "¿task", "¿in", "¿halt", "¿else", "¿key", "¿send", "¿)", "¿]", "¿,",
		"(¿", "(¿)", "(¿;", "(1¿", "(1¿;", "(1¿]", "(1¿,2)", "(1 ¿2)", "((1)¿", "(1)¿(2)", "(1) ¿2", "(1)¿[1]", "(1) ¿x", "(1¿=", "(x¿=1)",
		"x¿(1)", "x ¿y", "x ¿1", "x[¿", "x[¿]", "x[¿;", "x[1¿", "x[1¿)", "x[1¿;", "x[1¿,", "x[1]¿[2]", "x[1] ¿x", "x[1]¿(", "1¿[1]", "1¿(1)", "1 ¿x", "x[1 ¿2]", "x ¿sel(1,2,3)",
		"-¿", "-¿;", "-¿)", "-¿+1", "~¿", "~¿;", "~¿*1", "~-¿", "--¿]", "-¿in", "-x ¿~y", "x¿~y", "1¿~1", "-~¿;",
		"sel¿", "sel¿;", "sel ¿1,2,3", "sel¿[1]", "sel(¿", "sel(¿)", "sel(¿,1,2)", "sel(1¿", "sel(1¿)", "sel(1¿;", "sel(1,¿", "sel(1,¿)", "sel(1,¿,", "sel(1,2¿", "sel(1,2¿)", "sel(1,2,¿", "sel(1,2,¿)", "sel(1,2,3¿", "sel(1,2,3¿,4)", "sel(1,2,3¿;",
		"sel(1,2,3)¿[1]", "sel(1,2,3)¿(", "sel(1 ¿2", "sel(1,2,3) ¿1", "sel(1¿]", "sel(1,2¿]",
		"1¿!", "1+¿!", "¿1a", "¿0x", "x¿.y", "1+¿4294967296", "x[¿\"", "sel(1,2,¿3e", "1¿=", "1==¿", "1==¿=",
	} {
		for _, head := range []string{"task a{out ", "task a{x[1+-", "task a{public y;if(1|sel(1,", "task a{send m(x[", "task a{{x=~(2+3)*"} {
			expectWrong(t, head+s)
		}
	}
}

func TestWhatMayNotStandBehindASign(t *testing.T) {
	others := []string{"", ";", ")", "]", "}", ",", "=", "{", "[", "in", "task", "!", "2b"}
	for _, signs := range signsByLevels {
		for _, s := range signs {
			if s != "-" {
				others = append(others, s)
			}
		}
	}
	for _, signs := range append(signsByLevels, []string{"+ -", "- ~", "- -"}) {
		for _, s := range signs {
			for _, behind := range others {
				expectWrong(t, "task a{out x[1] "+s+" "+mark+behind)
				expectWrong(t, "task a{x[sel(1,2"+s+" "+mark+behind)
			}
		}
	}
}

// A source that ends too soon is wrong at its length, behind blanks and comments.
func TestSourcesThatEndTooSoon(t *testing.T) {
	const src = "task a { public x ; input secret y [ 3 ] ; key k ; x = 1 ; y [ x ] = ~ 2 ; if ( x < 1 ) { halt ; } else { { } } " +
		"for i in 3 { send m - sel ( 1 , ( 2 ) , 3 ) ; recv m x ; } out ( x ) + y [ 0 ] ; }"
	expectOK(t, src)
	expectOK(t, strings.ReplaceAll(src, " ", "\n"))
	for n := range src {
		if src[n] == ' ' {
			for _, behind := range []string{"", " ", "\n\t", "# }", " #\n"} {
				expectNone(t, src[:n]+behind, n+len(behind))
			}
		}
	}
}

// What no token begins is wrong where it stands, but for what is wrong ahead of it.
func TestWhatNoTokenBegins(t *testing.T) {
	for _, bad := range []string{"!", "@", "\x00", "\x80", "é", "1x", "0x", "4294967296", "$", ".", "\"", "!!", "'a'"} {
		for _, s := range []string{
			"¿%s", " # c\n ¿%s task a{}", "task ¿%s", "task a ¿%s{}", "task a{¿%s}", "task a{}¿%s", "task a{} ¿%s task b{}", "task a{public ¿%s;}", "task a{public x[¿%s];}", "task a{x=¿%s;}", "task a{x=y ¿%s;}", "task a{out 1+¿%s 2;}",
			"task a{x=¿;} %s", "¿x %s", "task a{x ¿y %s", "task ¿1 %s", "task a{} ¿; %s", "task a{out 1 ¿2 %s", "task a{if(1) ¿else{} %s", "task a{if(1){} ¿%s else{}", "task a{¿%s ;; x y", "task a{if(1){}else ¿if %s", "¿; %s", "task a{¿%s %s",
		} {
			expectWrong(t, strings.ReplaceAll(s, "%s", bad))
		}
		expectOK(t, "task a{} # "+bad)
	}
}

// Of a token that is wrong the beginning is told, whatever stands ahead of it, and however long it is.
func TestWhereTheWrongTokenBegins(t *testing.T) {
	for _, s := range []string{
		"task a { x  # =\n\t ¿task = 1; }", "task a { out 1  \r\n# more\n  ¿0x00ff; }", "task a { out x ¿publics; }", "# a\n# b\n ¿a", "task a{x=1 ==  ¿;}", "task a{x ¿<= 1;}", "task a{x ¿== 1;}", "task a{out 1 <<¿<1;}", "task a{out 1>=¿=1;}",
		"task a{out 1;} # ;\n\n¿abc def",
	} {
		expectWrong(t, s)
	}
}

func TestMaxText(t *testing.T) {
	for _, src := range []string{"", "task a{}", "#", "# é", "task a{x=1;#", "task a{out 1", "x", "!", "task a{{{"} {
		for _, fill := range []string{" ", "#", "\n", "x", "1", "\x00", "é"} {
			s := src + strings.Repeat(fill, api.MaxText+1)
			expectNone(t, s[:api.MaxText+1], 0)
			expectNone(t, s, 0)
		}
	}
	const half = api.MaxText / 2
	for _, s := range []string{
		"task a{}" + strings.Repeat(" ", api.MaxText-8), strings.Repeat("\n", api.MaxText-8) + "task a{}", strings.Repeat("task a{}", api.MaxText/8), "#" + strings.Repeat("!", api.MaxText-1), "##" + strings.Repeat("é", half-1),
	} {
		expectOK(t, s)
		expectOK(t, s[:api.MaxText-8])
		expectNone(t, s+" ", 0)
		expectNone(t, "\n"+s, 0)
	}
	name := strings.Repeat("n", api.MaxText-7)
	expectTree(t, "task "+name+"{}", "Block @8190", "Task "+name+" [0] @0", "All [1] @0")
	expectNone(t, "task n"+name+"{}", 0)
	expectNone(t, strings.Repeat(" ", api.MaxText-1)+"x", api.MaxText-1)
	expectNone(t, strings.Repeat(" ", api.MaxText)+"x", 0)
	expectNone(t, "task a{"+strings.Repeat(" ", api.MaxText-7), api.MaxText)
	expectNone(t, strings.Repeat("x", 1<<22), 0)
}
