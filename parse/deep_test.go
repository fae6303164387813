package parse

import (
	"math/rand"
	"strings"
	"testing"

	"footman/api"
)

func many(n int, s string) string {
	return strings.Repeat(s, n)
}

// Of each kind of statement MaxDepth lie within one another, and no more.
func TestDeepStatements(t *testing.T) {
	const head, most = "task a{public x;halt;", api.MaxDepth
	for _, open := range []string{"{", "for i in 1{"} {
		for n := range most + 1 {
			expectOK(t, head+many(n, open)+many(n+1, "}"))
		}
		expectOK(t, head+many(most, open)+"}"+many(most-1, open+"}}")+many(most, open)+many(most+1, "}"))
		for _, begin := range []string{"{", "for i in 1{", "if(1){}", "x=1;", "x[1]=1;", "send m 1;", "recv m x;", "out 1;", "halt;", "for", "if", "x", "halt", "{ ! "} {
			for _, more := range []string{"", "}", "{}", many(50, "}")} {
				expectWrong(t, head+many(most, open)+mark+begin+more)
				expectWrong(t, head+many(most, open)+" # {\n"+mark+begin+more)
				expectWrong(t, head+many(most-1, open)+"halt;"+open+mark+begin+more)
				expectWrong(t, head+many(most-1, open)+open+"}"+open+mark+begin+more)
			}
		}
		for _, begin := range []string{"1", ";", "(", "else", "=", "public", "sel", "task", "", "!", "-"} {
			expectWrong(t, head+many(most, open)+mark+begin)
		}
		for _, deepest := range []string{"{}", "for i in 1{}", "recv m x;", "halt;", "{}halt;recv m x;{}"} {
			expectOK(t, head+many(most-1, open)+deepest+many(most, "}"))
		}
	}
}

// The e of a statement lies within it: an if, too, is one ahead of its e.
func TestDeepEsOfStatements(t *testing.T) {
	const head, most = "task a{", api.MaxDepth
	for _, s := range []string{"x=¿1;", "x=¿x[1];", "out ¿(1);", "x[¿1]=1;", "x[¿x]=(1);", "send m ¿1;", "send m ¿-1;", "if(¿1){}", "if(¿~1){}else{}", "out ¿;", "if(¿){}", "x=¿!", "send m¿ 1;", "out ¿sel(1,2,3);"} {
		s = strings.Replace(s, mark+" ", " "+mark, 1)
		for _, open := range []string{"{", "for i in 0{", "halt;{"} {
			expectWrong(t, head+many(most-1, open)+s+many(most, "}"))
		}
	}
	for _, s := range []string{"x=1;", "x=y;", "out 1+2*3;", "x[1]=1;", "send m x;", "if(1){}", "if(1){halt;}else{{}}", "x=1;x[x]=x-x;out 1;"} {
		expectOK(t, head+many(most-2, "{")+s+many(most-1, "}"))
	}
	for _, open := range []string{"if(1){", "if(1){}else{"} {
		for n := range most {
			expectOK(t, head+many(n, open)+many(n+1, "}"))
		}
		expectOK(t, head+many(most-1, open)+"halt;{}for i in 1{}"+many(most, "}"))
		expectWrong(t, head+many(most-1, open)+"if("+mark+"1){}")
		expectWrong(t, head+many(most-1, open)+"{"+mark+"if(1){}")
		expectWrong(t, head+many(most-1, open)+"{"+mark+"halt;")
	}
}

// An e within an e, a sign ahead within an e, what is ahead of it within that.
func TestDeepEs(t *testing.T) {
	const most = api.MaxDepth - 2 // a statement and its e lie around
	for _, head := range []string{"task a{out ", "task a{x=", "task a{x[", "task a{send m ", "task a{if("} {
		for _, open := range []string{"(", "x[", "sel(", "sel(1,", "sel(1,2,", "1+(", "(1+", "1|2*x[3*"} {
			within := strings.IndexAny(open, "([") + 1
			for n := range 40 {
				if n <= most {
					expectWrong(t, head+many(n, open)+mark+";")
				} else {
					expectNone(t, head+many(n, open)+"1", len(head)+most*len(open)+within)
				}
			}
		}
		for _, s := range []string{"-", "~"} {
			expectWrong(t, head+many(most, s)+mark+";")
			expectWrong(t, head+many(most, s+" ")+mark)
			expectWrong(t, head+many(most, s)+mark+s+"1")
			expectWrong(t, head+many(most, s)+mark+many(100, s)+"1")
			expectWrong(t, head+many(most, s)+"x["+mark+"1];")
			expectWrong(t, head+many(most, s)+"("+mark+"1);")
			expectWrong(t, head+many(most, s)+"sel("+mark+"1,2,3);")
			expectWrong(t, head+many(most, s)+"1*"+many(most, s)+"1-"+many(most, s)+mark+s)
			expectWrong(t, head+many(most/2, s+"(")+mark+s+"1")
		}
	}
	expectOK(t, "task a{out "+many(most, "(")+"1"+many(most, ")")+";}")
	expectOK(t, "task a{out "+many(most, "x[")+"1"+many(most, "]")+";}")
	expectOK(t, "task a{out "+many(most, "sel(")+"1"+many(most, ",2,3)")+";}")
	expectOK(t, "task a{out "+many(most, "sel(1,")+"2"+many(most, ",3)")+";}")
	expectOK(t, "task a{out "+many(most, "sel(1,2,")+"3"+many(most, ")")+";}")
	expectOK(t, "task a{out "+many(most/2, "-(")+"1"+many(most/2, ")")+";}")
	expectOK(t, "task a{out "+many(most, "~")+"1"+many(300, "-"+many(most, "-")+"1")+";}")
	expectOK(t, "task a{"+many(100, "x["+many(most, "(")+"1"+many(most, ")")+"]="+many(most, "~")+"x;")+"}")
}

// What stands side by side lies in one another nowhere.
func TestWhatIsNotDeep(t *testing.T) {
	for _, s := range []string{"{}", "halt;", "x=1;", "if(1){}else{}", "if(-1){halt;}", "for i in 1{{}}", "x[-1]=~1;", "out(((1)));"} {
		expectOK(t, "task a{"+many(100, s)+"}"+many(50, "task b{"+s+"}"))
	}
	for _, s := range []string{"+1", "*-1", "|(1)", "==~x[1]", "-sel(1,2,3)", "&x", "<<(1*2)"} {
		expectOK(t, "task a{out 1"+many(500, s)+";}")
	}
}

// A deepSource is written part by part; deep counts what lies around, wrong is where the first one too many begins.
type deepSource struct {
	text  strings.Builder
	shut  []string
	deep  int
	wrong int
}

func (d *deepSource) begin() {
	d.deep++
	if d.deep > api.MaxDepth && d.wrong < 0 {
		d.wrong = d.text.Len()
	}
}

func (d *deepSource) one() {
	d.begin()
	d.text.WriteString("1")
	d.deep--
}

func (d *deepSource) open(s, shut string) {
	d.text.WriteString(s)
	d.shut = append(d.shut, shut)
}

func (d *deepSource) statement(n int) {
	d.begin()
	switch n {
	case 0:
		d.open("{", "}")
	case 1:
		d.open("for i in 9{", "}")
	default:
		d.text.WriteString("if(")
		d.one()
		d.open([]string{"){", "){}else{"}[n%2], "}")
	}
}

func (d *deepSource) lastStatement(n int) {
	d.begin()
	d.open([]string{"out ", "x=", "x[", "send m ", "if("}[n], []string{";", ";", "]=1;", ";", "){}"}[n])
	d.begin()
}

func (d *deepSource) within(n int) {
	switch n {
	case 0, 1:
		d.begin()
		d.open([]string{"-", "~ "}[n], "")
		return
	case 2:
		d.open("(", ")*2")
	case 3:
		d.open("x[", "]+1")
	case 4:
		d.open("sel(", ",1,1)")
	case 5:
		d.text.WriteString("sel(")
		d.one()
		d.open(",", ",1)")
	default:
		d.text.WriteString("sel(")
		d.one()
		d.text.WriteString(",")
		d.one()
		d.open(",", ")")
	}
	d.begin()
}

// All that lies within one another, mixed.
func TestDeepMixed(t *testing.T) {
	chance := rand.New(rand.NewSource(114))
	var ok, wrong int
	for range 30000 {
		d := deepSource{wrong: -1}
		d.open("task a{", "}")
		for range chance.Intn(26) {
			d.statement(chance.Intn(4))
		}
		d.lastStatement(chance.Intn(5))
		for range chance.Intn(26) {
			d.within(chance.Intn(7))
		}
		d.text.WriteString("1")
		for n := range d.shut {
			d.text.WriteString(d.shut[len(d.shut)-1-n])
		}
		if d.wrong < 0 {
			ok++
			expectOK(t, d.text.String())
		} else {
			wrong++
			expectNone(t, d.text.String(), d.wrong)
		}
		if t.Failed() {
			t.FailNow()
		}
	}
	if min(ok, wrong) < 5000 {
		t.Error("only so many:", ok, wrong)
	}
}
