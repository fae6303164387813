package parse

import (
	"fmt"
	"math/rand"
	"slices"
	"strings"
	"testing"

	"footman/api"
	"footman/lex"
)

// The grammar of chapter 11 once more, of each rule its shortest way first. What lies between deeper and back is one
// deeper; levels of signs are left to treeAgain.
const grammarText = `
source     : tasks END
tasks      : | task tasks
task       : 'task' NAME '{' variables statements '}'
variables  : | variable variables
variable   : 'key' NAME ';' | label NAME ';' | label NAME array ';' | 'input' label NAME array ';'
label      : 'public' | 'secret'
array      : '[' NUM ']'
statements : | deeper statement back statements
statement  : 'halt' ';' | 'recv' NAME NAME ';' | 'out' e ';' | 'send' NAME e ';' | block | NAME '=' e ';' | NAME '[' e ']' '=' e ';' | 'for' NAME 'in' NUM block | 'if' '(' e ')' block else
else       : | 'else' block
block      : '{' statements '}'
e          : deeper one more back
more       : | between one more
between    : '|' | '^' | '&' | '==' | '!=' | '<' | '<=' | '>' | '>=' | '<<' | '>>' | '+' | '-' | '*' | '/' | '%'
one        : NUM | NAME | NAME '[' e ']' | '(' e ')' | 'sel' '(' e ',' e ',' e ')' | deeper ahead one back
ahead      : '-' | '~'
`

type grammar map[string][][]string

func newGrammar() grammar {
	g := grammar{}
	for _, line := range strings.Split(strings.TrimSpace(grammarText), "\n") {
		f := strings.Fields(line)
		way := []string{}
		for _, s := range f[2:] {
			if s == "|" {
				g[f[0]] = append(g[f[0]], way)
				way = []string{}
			} else {
				way = append(way, s)
			}
		}
		g[f[0]] = append(g[f[0]], way)
	}
	return g
}

// An outlook is what may stand behind the tokens that were read.
type outlook struct {
	next string
	rest *outlook
}

func (o *outlook) ahead(way []string) *outlook {
	for _, s := range slices.Backward(way) {
		o = &outlook{s, o}
	}
	return o
}

type deepOutlook struct {
	*outlook
	deep int
}

// behind tells all outlooks behind a token.
func (g grammar) behind(o *outlook, deep int, x api.Token) []deepOutlook {
	switch s := o.next; {
	case s == "deeper" && deep == api.MaxDepth:
		return nil
	case s == "deeper":
		return g.behind(o.rest, deep+1, x)
	case s == "back":
		return g.behind(o.rest, deep-1, x)
	case g[s] != nil:
		var l []deepOutlook
		for _, way := range g[s] {
			l = append(l, g.behind(o.rest.ahead(way), deep, x)...)
		}
		return l
	case s == "NUM" && x.Kind == api.TNum, s == "NAME" && x.Kind == api.TName, s == "END" && x.Kind == api.TEnd, s == "'"+x.Text+"'":
		return []deepOutlook{{o.rest, deep}}
	}
	return nil
}

// check is where the first token of src is with which no source begins.
func (g grammar) check(src string) (at int, ok bool) {
	if len(src) > api.MaxText {
		return 0, false
	}
	all := []deepOutlook{{&outlook{next: "source"}, 0}}
	for _, x := range lex.All(src) {
		var more []deepOutlook
		for _, o := range all {
			more = append(more, g.behind(o.outlook, o.deep, x)...)
		}
		if len(more) == 0 {
			return x.At, false
		}
		all = more
	}
	return 0, true
}

// some appends texts of tokens that s may be.
func (g grammar) some(r *rand.Rand, fuel *int, s string, l []string) []string {
	pick := func(of string) string { f := strings.Fields(of); return f[r.Intn(len(f))] }
	switch ways := g[s]; {
	case s == "END" || s == "deeper" || s == "back":
		return l
	case s == "NUM":
		return append(l, pick("0 1 2 7 0x1f 4294967295 0xffffffff 00 65"))
	case s == "NAME":
		return append(l, pick("a b c x y_1 _ tasks i In"))
	case ways == nil:
		return append(l, strings.Trim(s, "'"))
	default:
		way := ways[0]
		if *fuel > 0 {
			way = ways[r.Intn(len(ways))]
			*fuel--
		}
		for _, s := range way {
			l = g.some(r, fuel, s, l)
		}
		return l
	}
}

func (g grammar) someSource(r *rand.Rand) []string {
	fuel := r.Intn(300)
	l := g.some(r, &fuel, "task", nil)
	for r.Intn(3) > 0 {
		fuel = r.Intn(300)
		l = append(l, g.some(r, &fuel, "task", nil)...)
	}
	return l
}

// A treeAgain is a tree read a second time: what is split at the last of the loosest signs, and at what ends parts.
type treeAgain struct {
	l []api.Node
}

func (r *treeAgain) add(n api.Node) int {
	r.l = append(r.l, n)
	return len(r.l) - 1
}

// first is the place of the first token of l that has one of these texts, and no bracket around it.
func first(l []api.Token, texts ...string) int {
	deep := 0
	for n, x := range l {
		if deep == 0 && slices.Contains(texts, x.Text) {
			return n
		}
		switch x.Text {
		case "(", "[", "{":
			deep++
		case ")", "]", "}":
			deep--
		}
	}
	return -1
}

// parts are what commas of l part, none of them in brackets.
func parts(l []api.Token) [][]api.Token {
	if n := first(l, ","); n >= 0 {
		return append([][]api.Token{l[:n]}, parts(l[n+1:])...)
	}
	return [][]api.Token{l}
}

// last is the place of the last sign between two of a level, with no bracket around it.
func last(l []api.Token, signs []string) int {
	found, from := -1, 0
	for {
		n := first(l[from:], signs...)
		if n < 0 {
			return found
		}
		n += from
		if n > 0 {
			if x := l[n-1]; x.Kind == api.TNum || x.Kind == api.TName || x.Text == ")" || x.Text == "]" {
				found = n
			}
		}
		from = n + 1
	}
}

func (r *treeAgain) e(l []api.Token) int {
	for _, signs := range signsByLevels {
		if n := last(l, signs); n > 0 {
			a := r.e(l[:n])
			b := r.e(l[n+1:])
			return r.add(api.Node{Kind: api.NBinary, Text: l[n].Text, Kids: []int{a, b}, At: r.l[a].At})
		}
	}
	switch x := l[0]; {
	case x.Text == "(":
		return r.e(l[1 : len(l)-1])
	case x.Text == "-" || x.Text == "~":
		return r.add(api.Node{Kind: api.NUnary, Text: x.Text, Kids: []int{r.e(l[1:])}, At: x.At})
	case x.Text == "sel":
		var kids []int
		for _, part := range parts(l[2 : len(l)-1]) {
			kids = append(kids, r.e(part))
		}
		return r.add(api.Node{Kind: api.NSel, Kids: kids, At: x.At})
	case x.Kind == api.TNum:
		return r.add(api.Node{Kind: api.NNum, Num: x.Num, At: x.At})
	case len(l) == 1:
		return r.add(api.Node{Kind: api.NName, Text: x.Text, At: x.At})
	default:
		return r.add(api.Node{Kind: api.NAt, Text: x.Text, Kids: []int{r.e(l[2 : len(l)-1])}, At: x.At})
	}
}

// behindBlock is the place behind the first block of l.
func behindBlock(l []api.Token) int {
	n := first(l, "{") + 1
	return n + first(l[n:], "}") + 1
}

// block reads what is in a block.
func (r *treeAgain) block(l []api.Token, at int) int {
	var kids []int
	for len(l) > 0 {
		n := 0
		switch l[0].Text {
		case "{", "for", "if":
			n = behindBlock(l)
			if l[0].Text == "if" && n < len(l) && l[n].Text == "else" {
				n += behindBlock(l[n:])
			}
		default:
			n = first(l, ";") + 1
		}
		kids = append(kids, r.statement(l[:n]))
		l = l[n:]
	}
	return r.add(api.Node{Kind: api.NBlock, Kids: kids, At: at})
}

// braces reads a block that stands with its braces at the end of l.
func (r *treeAgain) braces(l []api.Token) int {
	n := first(l, "{")
	return r.block(l[n+1:len(l)-1], l[n].At)
}

func (r *treeAgain) statement(l []api.Token) int {
	x, n := l[0], api.Node{At: l[0].At}
	switch end := len(l) - 1; x.Text {
	case "{":
		return r.braces(l)
	case "halt":
		n.Kind = api.NHalt
	case "out":
		n.Kind, n.Kids = api.NOut, []int{r.e(l[1:end])}
	case "recv":
		n.Kind, n.Text, n.Names = api.NRecv, l[1].Text, []string{l[2].Text}
	case "send":
		n.Kind, n.Text, n.Kids = api.NSend, l[1].Text, []int{r.e(l[2:end])}
	case "for":
		n.Kind, n.Text, n.Num, n.Kids = api.NFor, l[1].Text, l[3].Num, []int{r.braces(l[4:])}
	case "if":
		return r.choice(l)
	default:
		n.Kind, n.Text = api.NSet, x.Text
		is := first(l, "=")
		if is > 1 {
			n.Kind, n.Kids = api.NPut, []int{r.e(l[2 : is-1])}
		}
		n.Kids = append(n.Kids, r.e(l[is+1:end]))
	}
	return r.add(n)
}

func (r *treeAgain) choice(l []api.Token) int {
	open := first(l, "{")
	kids := []int{r.e(l[2 : open-1])}
	if n := first(l, "else"); n > 0 {
		kids = append(kids, r.braces(l[open:n]), r.braces(l[n:]))
	} else {
		kids = append(kids, r.braces(l[open:]), r.block(nil, l[0].At))
	}
	return r.add(api.Node{Kind: api.NIf, Kids: kids, At: l[0].At})
}

func (r *treeAgain) variable(l []api.Token) int {
	n := api.Node{Kind: api.NVar, At: l[0].At}
	for _, x := range l {
		switch {
		case x.Text == "secret":
			n.Flags |= api.FSecret
		case x.Text == "input":
			n.Flags |= api.FInput
		case x.Text == "key":
			n.Flags |= api.FKey | api.FSecret | api.FArray
			n.Num = 4
		case x.Kind == api.TNum:
			n.Flags |= api.FArray
			n.Num = x.Num
		case x.Kind == api.TName:
			n.Text = x.Text
		}
	}
	return r.add(n)
}

func (r *treeAgain) source(src string) []api.Node {
	var tasks []int
	for l := lex.All(src); len(l) > 1; {
		n := 3 + first(l[3:], "}")
		body, kids := l[3:n], []int(nil)
		for len(body) > 0 && slices.Contains([]string{"input", "public", "secret", "key"}, body[0].Text) {
			end := first(body, ";")
			kids = append(kids, r.variable(body[:end]))
			body = body[end+1:]
		}
		kids = append(kids, r.block(body, l[2].At))
		tasks = append(tasks, r.add(api.Node{Kind: api.NTask, Text: l[1].Text, Kids: kids, At: l[0].At}))
		l = l[n+1:]
	}
	r.add(api.Node{Kind: api.NAll, Kids: tasks})
	return r.l
}

// expectAgain holds what Parse tells of src against both second readings.
func expectAgain(t *testing.T, g grammar, src string) bool {
	t.Helper()
	l, at, ok := Parse(src)
	if wantAt, want := g.check(src); at != wantAt || ok != want || !ok && l != nil {
		t.Errorf("11.4: Parse(%q): %d nodes, %d, %v; not at %d, %v", src, len(l), at, ok, wantAt, want)
		return false
	}
	if ok {
		if want := (&treeAgain{}).source(src); !slices.Equal(showAll(l), showAll(want)) {
			t.Errorf("11.3: Parse(%q): %q, not %q", src, showAll(l), showAll(want))
		}
	}
	return ok
}

func allTokens() []string {
	return append(strings.Fields("a 1 ! 2b task input public secret key if else for in send recv out halt sel { } ( ) [ ] ; , = == != < <= > >= << >> + - * / % & ^ | ~"), "")
}

const rich = "task a { public x ; input secret y [ 3 ] ; key k ; x = 1 ; y [ x ] = ~ 2 ; if ( x < 1 ) { halt ; } else { { } } for i in 3 { send m - sel ( 1 , ( 2 ) , 3 ) ; recv m x ; } out ( x ) + y [ 0 ] ; } task b { }"

// Each token of a source that has all, changed to each other one, with each other one ahead, and left out.
func TestAgainEachTokenInEachPlace(t *testing.T) {
	g := newGrammar()
	l := strings.Fields(rich)
	for n := range l {
		for _, s := range allTokens() {
			other := slices.Clone(l)
			other[n] = s
			expectAgain(t, g, strings.Join(other, " "))
			expectAgain(t, g, strings.Join(slices.Insert(slices.Clone(l), n, s), " "))
		}
		expectAgain(t, g, strings.Join(l[:n], "\n"))
		expectAgain(t, g, strings.Join(l[:n], "\n")+" ")
	}
}

// Behind some beginnings each three tokens, and then what may end them.
func TestAgainEachThreeTokens(t *testing.T) {
	g := newGrammar()
	for _, begin := range []string{"", "task a { ", "task a { x [ ", "task a { if ( 1 ) { } ", "task a { public x ", "task a { out 1 + "} {
		for _, a := range allTokens() {
			for _, b := range allTokens() {
				s := begin + a + " " + b
				expectAgain(t, g, s)
				if at, ok := g.check(s); !ok && at < len(s) {
					continue
				}
				for _, c := range allTokens() {
					expectAgain(t, g, s+" "+c)
					expectAgain(t, g, s+" "+c+" ; }")
				}
			}
		}
	}
}

// joined is what tokens stand for as text, with blanks and comments between.
func joined(r *rand.Rand, l []string) string {
	var s strings.Builder
	for _, x := range l {
		s.WriteString(x)
		for r.Intn(3) == 0 {
			s.WriteString([]string{" ", "\n", "\t", "\r\n", "# ; } !\n"}[r.Intn(5)])
		}
		if n := len(x); n > 0 && strings.Contains("=!<>", x[n-1:]) || lex.IsWord(x) || lex.IsName(x) || '0' <= x[0] && x[0] <= '9' {
			s.WriteString(" ")
		}
	}
	return s.String()
}

func TestAgainSourcesOfChance(t *testing.T) {
	chance, g := rand.New(rand.NewSource(11)), newGrammar()
	var right, wrong, tooDeep int
	tokens := allTokens()
	tokens = tokens[:len(tokens)-1]
	for range 2500 {
		l := g.someSource(chance)
		if expectAgain(t, g, joined(chance, l)) {
			right++
		} else {
			tooDeep++
		}
		for range 3 {
			n, other := chance.Intn(len(l)), tokens[chance.Intn(len(tokens))]
			switch chance.Intn(4) {
			case 0:
				l = slices.Insert(slices.Clone(l), n, other)
			case 1:
				l[n] = other
			case 2:
				l = append(slices.Clone(l[:n]), append([]string{l[chance.Intn(len(l))]}, l[n:]...)...)
			default:
				m := chance.Intn(len(l))
				l[n], l[m] = l[m], l[n]
			}
			if !expectAgain(t, g, joined(chance, l)) {
				wrong++
			}
		}
		if t.Failed() {
			t.FailNow()
		}
	}
	if min(right, tooDeep) < 500 || wrong < 5000 {
		t.Error("only so many:", right, wrong, tooDeep)
	}
}

// A sourceOf writes a tree's source with no bracket that it does not need.
type sourceOf struct {
	strings.Builder
	l []api.Node
}

func (w *sourceOf) put(l ...any) {
	for _, x := range l {
		fmt.Fprint(w, x, " ")
	}
}

func (w *sourceOf) levelOf(n api.Node) int {
	switch n.Kind {
	case api.NBinary:
		return slices.IndexFunc(signsByLevels, func(l []string) bool { return slices.Contains(l, n.Text) })
	case api.NUnary:
		return len(signsByLevels)
	}
	return len(signsByLevels) + 1
}

func (w *sourceOf) e(k, least int) {
	n := w.l[k]
	level := w.levelOf(n)
	if level < least {
		w.put("(")
		defer w.put(")")
	}
	switch n.Kind {
	case api.NNum:
		w.put(n.Num)
	case api.NName:
		w.put(n.Text)
	case api.NAt:
		w.put(n.Text, "[")
		w.e(n.Kids[0], 0)
		w.put("]")
	case api.NUnary:
		w.put(n.Text)
		w.e(n.Kids[0], level)
	case api.NBinary:
		w.e(n.Kids[0], level)
		w.put(n.Text)
		w.e(n.Kids[1], level+1)
	case api.NSel:
		for x, k := range n.Kids {
			w.put([]string{"sel (", ",", ","}[x])
			w.e(k, 0)
		}
		w.put(")")
	}
}

func (w *sourceOf) statement(k int) {
	switch n := w.l[k]; n.Kind {
	case api.NSet, api.NPut:
		w.put(n.Text)
		if n.Kind == api.NPut {
			w.put("[")
			w.e(n.Kids[0], 0)
			w.put("]")
		}
		w.put("=")
		w.e(n.Kids[len(n.Kids)-1], 0)
		w.put(";")
	case api.NIf:
		w.put("if (")
		w.e(n.Kids[0], 0)
		w.put(")")
		w.statement(n.Kids[1])
		w.put("else")
		w.statement(n.Kids[2])
	case api.NFor:
		w.put("for", n.Text, "in", n.Num)
		w.statement(n.Kids[0])
	case api.NSend:
		w.put("send", n.Text)
		w.e(n.Kids[0], 0)
		w.put(";")
	case api.NRecv:
		w.put("recv", n.Text, n.Names[0], ";")
	case api.NOut:
		w.put("out")
		w.e(n.Kids[0], 0)
		w.put(";")
	case api.NHalt:
		w.put("halt ;")
	case api.NBlock:
		w.put("{")
		for _, k := range n.Kids {
			w.statement(k)
		}
		w.put("}")
	}
}

func (w *sourceOf) variable(n api.Node) {
	switch {
	case n.Flags&api.FKey != 0:
		w.put("key", n.Text, ";")
		return
	case n.Flags&api.FInput != 0:
		w.put("input")
	}
	w.put([]string{"public", "secret"}[n.Flags&api.FSecret], n.Text)
	if n.Flags&api.FArray != 0 {
		w.put("[", n.Num, "]")
	}
	w.put(";")
}

func (w *sourceOf) all() string {
	for _, k := range w.l[len(w.l)-1].Kids {
		task := w.l[k]
		w.put("task", task.Text, "{")
		variables, block := task.Kids[:len(task.Kids)-1], task.Kids[len(task.Kids)-1]
		for _, k := range variables {
			w.variable(w.l[k])
		}
		for _, k := range w.l[block].Kids {
			w.statement(k)
		}
		w.put("}")
	}
	return w.String()
}

// below counts the nodes of a tree, and holds that they stand side by side, in order, the last one at k.
func below(t *testing.T, l []api.Node, k int) int {
	t.Helper()
	sum := 1
	for _, kid := range slices.Backward(l[k].Kids) {
		if kid != k-sum {
			t.Fatalf("11.3: node %d of %q is no kid's place", k-sum, showAll(l))
		}
		sum += below(t, l, kid)
	}
	return sum
}

// What is told is that of the source that it is written as.
func TestWhatIsToldIsASources(t *testing.T) {
	chance, g := rand.New(rand.NewSource(115)), newGrammar()
	n := 0
	for range 5000 {
		src := joined(chance, g.someSource(chance))
		l, _, ok := Parse(src)
		if !ok {
			continue
		}
		if below(t, l, len(l)-1) != len(l) {
			t.Fatalf("11.3: Parse(%q): %q has nodes that are nobody's", src, showAll(l))
		}
		written := (&sourceOf{l: l}).all()
		if len(written) > api.MaxText {
			continue
		}
		n++
		again, at, ok := Parse(written)
		for _, l := range [][]api.Node{l, again} {
			for k := range l {
				l[k].At = 0
			}
		}
		if !ok || !slices.Equal(showAll(l), showAll(again)) {
			t.Fatalf("11.5: Parse(%q): %q, but of %q: %q, %d, %v", src, showAll(l), written, showAll(again), at, ok)
		}
	}
	if n < 2000 {
		t.Error("only so many:", n)
	}
}
