package lex

import (
	"fmt"
	"math"
	"slices"
	"strings"
	"testing"

	"footman/api"
)

const (
	upper  = "ABCDEFGHIJKLMNOPQRSTUVWXYZ"
	lower  = "abcdefghijklmnopqrstuvwxyz"
	digits = "0123456789"
	inName = upper + lower + "_" + digits
	blanks = "\t\n\r "
)

var (
	allWords = strings.Fields("task input public secret key if else for in send recv out halt sel")
	allSigns = strings.Fields("{ } ( ) [ ] ; , = == != < <= > >= << >> + - * / % & ^ | ~")
)

func tok(kind int, text string, at int) api.Token {
	return api.Token{Kind: kind, Text: text, At: at}
}

func num(text string, n uint32, at int) api.Token {
	return api.Token{Kind: api.TNum, Text: text, Num: n, At: at}
}

func expectNext(t *testing.T, src string, at int, want api.Token, behind int) {
	t.Helper()
	if x, b := Next(src, at); x != want || b != behind {
		t.Errorf("10.1: Next(%q, %d): %+v, %d; not %+v, %d", src, at, x, b, want, behind)
	}
}

// expectToken is expectNext of a token that ends with its text.
func expectToken(t *testing.T, src string, at int, want api.Token) {
	t.Helper()
	expectNext(t, src, at, want, want.At+len(want.Text))
}

// expectBad asks nothing of what stands behind but what the chapter says.
func expectBad(t *testing.T, src string, at, begins int) {
	t.Helper()
	x, behind := Next(src, at)
	if x != tok(api.TBad, "", begins) || behind < begins || behind > len(src) {
		t.Errorf("10.1: Next(%q, %d): %+v, %d; not a TBad at %d", src, at, x, behind, begins)
	}
}

// expectAll is told each token as `end`, `bad`, `#` and a number, `n:` and a name, `w:` and a word, or a sign alone.
func expectAll(t *testing.T, src string, want ...string) {
	t.Helper()
	var l []string
	for _, x := range All(src) {
		l = append(l, [...]string{"end", "#", "n:", "w:", "", "bad"}[x.Kind]+x.Text)
		if x.Kind != api.TNum && x.Num != 0 {
			t.Errorf("10.1: All(%q): %+v has a number", src, x)
		}
	}
	if !slices.Equal(l, want) {
		t.Errorf("10.2: All(%q): %q, not %q", src, l, want)
	}
}

// eachByte goes through all bytes, each as a text.
func eachByte(do func(c string)) {
	for c := range 256 {
		do(string([]byte{byte(c)}))
	}
}

func TestTheExample(t *testing.T) {
	expectToken(t, "x1", 0, tok(api.TName, "x1", 0))
}

func TestNextOfTheEmptySource(t *testing.T) {
	for _, at := range []int{math.MinInt, -1, 0, 1, 99, math.MaxInt} {
		expectToken(t, "", at, tok(api.TEnd, "", 0))
	}
}

func TestNextCutsAt(t *testing.T) {
	for _, at := range []int{math.MinInt, -1 << 32, -7, -3, -2, -1, 0} {
		expectToken(t, "ab 12", at, tok(api.TName, "ab", 0))
		expectToken(t, " 12", at, num("12", 12, 1))
		expectBad(t, "! a", at, 0)
	}
	for _, at := range []int{5, 6, 7, 1 << 32, math.MaxInt} {
		expectToken(t, "ab 12", at, tok(api.TEnd, "", 5))
		expectToken(t, "!!!!!", at, tok(api.TEnd, "", 5))
	}
	expectToken(t, "ab 12", 4, num("2", 2, 4))
}

func TestNextInTheMiddleOfAToken(t *testing.T) {
	for _, c := range []struct {
		src  string
		at   int
		want api.Token
	}{
		{"x1", 1, num("1", 1, 1)}, {"abc+", 2, tok(api.TName, "c", 2)}, {"abc+", 3, tok(api.TSign, "+", 3)},
		{"input", 2, tok(api.TName, "put", 2)}, {"input", 1, tok(api.TName, "nput", 1)}, {"sinput", 1, tok(api.TWord, "input", 1)},
		{"tasks", 1, tok(api.TName, "asks", 1)}, {"begin", 3, tok(api.TWord, "in", 3)}, {"_9_", 1, tok(api.TBad, "", 1)},
		{"1234", 2, num("34", 34, 2)}, {"4294967296", 1, num("294967296", 294967296, 1)},
		{"0xff", 1, tok(api.TName, "xff", 1)}, {"0xff", 2, tok(api.TName, "ff", 2)}, {"0x12", 2, num("12", 12, 2)},
		{"00x1f", 1, num("0x1f", 31, 1)}, {"10x1", 1, num("0x1", 1, 1)},
		{"<<", 1, tok(api.TSign, "<", 1)}, {"!=", 1, tok(api.TSign, "=", 1)}, {"<==", 1, tok(api.TSign, "==", 1)}, {"===", 1, tok(api.TSign, "==", 1)},
	} {
		if c.want.Kind == api.TBad {
			expectBad(t, c.src, c.at, c.want.At)
			continue
		}
		expectToken(t, c.src, c.at, c.want)
	}
}

func TestNextInTheMiddleOfABlankOrAComment(t *testing.T) {
	for at := range 5 {
		expectToken(t, " \t\r\n a", at, tok(api.TName, "a", 5))
	}
	const src = "# one two\n3"
	expectToken(t, src, 0, num("3", 3, 10))
	expectToken(t, src, 1, tok(api.TName, "one", 2))
	expectToken(t, src, 2, tok(api.TName, "one", 2))
	expectToken(t, src, 4, tok(api.TName, "e", 4))
	expectToken(t, src, 5, tok(api.TName, "two", 6))
	expectToken(t, src, 9, num("3", 3, 10))
	expectToken(t, "a # b # c\nd", 5, tok(api.TName, "d", 10))
	expectToken(t, "a # b # c\nd", 3, tok(api.TName, "b", 4))
	expectToken(t, "## b", 1, tok(api.TEnd, "", 4))
	expectBad(t, "# it's", 4, 4)
}

func TestBlanks(t *testing.T) {
	for _, c := range []string{"\t", "\n", "\r", " ", "\r\n", " \t\r\n\n\r\t "} {
		expectToken(t, c, 0, tok(api.TEnd, "", len(c)))
		expectToken(t, c+"x", 0, tok(api.TName, "x", len(c)))
		expectToken(t, "x"+c+"y", 1, tok(api.TName, "y", 1+len(c)))
		expectToken(t, "x"+c+"y", 0, tok(api.TName, "x", 0))
		expectAll(t, "1"+c+"2"+c+"<"+c+"<"+c+"in"+c+"put", "#1", "#2", "<", "<", "w:in", "n:put", "end")
	}
	for _, c := range []string{"\x08", "\x0b", "\x0c", "\x0e", "\x1f", "!", "\x00", "\x1c", "\x7f", "\x85", "\xa0", "\u00a0", "\u2028", "\ufeff"} {
		expectBad(t, c, 0, 0)
		expectBad(t, " "+c+" x", 0, 1)
		expectBad(t, "x"+c+"y", 1, 1)
		expectToken(t, "x"+c+"y", 0, tok(api.TName, "x", 0))
	}
}

// Each byte ahead of a name: what is no blank ends, or begins, a token.
func TestEachByteAheadOfAName(t *testing.T) {
	eachByte(func(c string) {
		src := c + "g"
		switch {
		case strings.Contains(blanks, c):
			expectToken(t, src, 0, tok(api.TName, "g", 1))
		case c == "#":
			expectToken(t, src, 0, tok(api.TEnd, "", 2))
		case slices.Contains(allSigns, c):
			expectToken(t, src, 0, tok(api.TSign, c, 0))
		case strings.Contains(inName, c) && !strings.Contains(digits, c):
			expectToken(t, src, 0, tok(api.TName, src, 0))
		default:
			expectBad(t, src, 0, 0)
		}
	})
}

func TestComments(t *testing.T) {
	for _, c := range []struct {
		src string
		at  int
	}{
		{"#\nx", 2}, {"##\nx", 3}, {"# # #\nx", 6}, {"#\n#\n#\nx", 6}, {" # a\n\t# b\r\n x", 12}, {"# a ! \x00 \xff\nx", 10}, {"#\r\nx", 3}, {"\n#\n\nx", 4},
		{"# task a {\nx", 11}, {"# 4294967296\nx", 13},
	} {
		expectToken(t, c.src, 0, tok(api.TName, "x", c.at))
	}
	for _, src := range []string{"#", "##", "# x", "# x\n", "#\n", "# x\n# y", "  # x \n \n # y \n ", "#\rx", "#\x0bx", "#\x0cx", "#\x85x", "# \u2028 x", "#\x00x"} {
		expectToken(t, src, 0, tok(api.TEnd, "", len(src)))
	}
	for _, x := range []api.Token{tok(api.TName, "x", 0), num("12", 12, 0), num("0xf", 15, 0), tok(api.TSign, "<", 0), tok(api.TWord, "if", 0)} {
		expectToken(t, x.Text+"#= 1", 0, x)
		expectToken(t, x.Text+"#\n= 1", 0, x)
	}
	expectAll(t, "a#b\nc# d\n#e\n1#2\n3 # \n # = \n<#<\n<# end", "n:a", "n:c", "#1", "#3", "<", "<", "end")
}

func TestNumbers(t *testing.T) {
	for _, c := range []struct {
		text string
		n    uint32
	}{
		{"0", 0}, {"1", 1}, {"9", 9}, {"10", 10}, {"00", 0}, {"007", 7}, {"08", 8}, {"0123456789", 123456789}, {"2147483647", 1<<31 - 1}, {"2147483648", 1 << 31},
		{"4294967294", 1<<32 - 2}, {"4294967295", 1<<32 - 1}, {"0000000000004294967295", 1<<32 - 1}, {strings.Repeat("0", 90), 0}, {strings.Repeat("0", 9000) + "12", 12},
		{"0x0", 0}, {"0x1", 1}, {"0x9", 9}, {"0xa", 10}, {"0xf", 15}, {"0x10", 16}, {"0xabcdef", 0xabcdef}, {"0x0123456", 0x123456}, {"0x789abcde", 0x789abcde}, {"0x7fffffff", 1<<31 - 1},
		{"0x80000000", 1 << 31}, {"0xfffffffe", 1<<32 - 2}, {"0xffffffff", 1<<32 - 1}, {"0x000000000ffffffff", 1<<32 - 1}, {"0x" + strings.Repeat("0", 90), 0}, {"0x" + strings.Repeat("0", 9000) + "1e", 0x1e},
		{"0x08", 8}, {"0x00", 0}, {"0xe1", 0xe1}, {"0xb0", 0xb0},
	} {
		expectToken(t, c.text, 0, num(c.text, c.n, 0))
		expectToken(t, "  "+c.text+" 1", 0, num(c.text, c.n, 2))
		expectToken(t, "-"+c.text+";", 1, num(c.text, c.n, 1))
	}
}

func TestNumbersThatAreBad(t *testing.T) {
	for _, s := range []string{
		"4294967296", "4294967297", "4294967300", "4294968000", "5000000000", "9999999999", "10000000000", "42949672950", "00004294967296", "99999999999999999999999999",
		"18446744073709551615", "18446744073709551616", "18446744073709551617", "340282366920938463463374607431768211457", strings.Repeat("9", 9000), "1" + strings.Repeat("0", 64),
		"0x100000000", "0x100000001", "0x1ffffffff", "0x0000100000000", "0xfffffffff", "0xffffffffffffffff", "0x10000000000000000", "0x10000000000000001", "0x1" + strings.Repeat("0", 64), "0x" + strings.Repeat("f", 9000),
		"0x", "0xg", "0x_", "0xG", "0xA", "0xF", "0xF1", "0xx1", "0x 1", "0x-1", "0x\n", "0x;", "0x#", "0X", "0X1", "0Xf", "00x1", "10x1", "0xfg", "0x0g", "0x1G", "0x1A", "0xaF", "0x1_", "0x1x", "0x0x1", "0xfz",
		"1a", "1A", "1_", "1x", "1x1", "1f", "0b1", "0o7", "0f", "0_0", "12z", "9_", "1e5", "1in", "0if", "4294967296a", "0x100000000g", "1a2", "1_000",
	} {
		expectBad(t, s, 0, 0)
		expectBad(t, " \t"+s+" a", 0, 2)
		expectBad(t, "a+"+s, 2, 2)
	}
}

// Each byte behind a number: those of names alone make it bad.
func TestEachByteBehindANumber(t *testing.T) {
	for text, n := range map[string]uint32{"0": 0, "7": 7, "4294967": 4294967, "0x0": 0, "0xf": 15, "0x9e": 0x9e} {
		hex := strings.HasPrefix(text, "0x")
		eachByte(func(c string) {
			for _, rest := range []string{"", " ", ";", "#"} {
				src := " " + text + c + rest
				switch {
				case strings.Contains(digits, c) || hex && strings.Contains("abcdef", c):
					if x, behind := Next(src, 0); x.Kind != api.TNum || x.Text != text+c || x.At != 1 || behind != len(text)+2 {
						t.Errorf("10.1: Next(%q, 0): %+v, %d", src, x, behind)
					}
				case strings.Contains(inName, c):
					expectBad(t, src, 0, 1)
				default:
					expectToken(t, src, 0, num(text, n, 1))
				}
			}
		})
	}
}

func TestNames(t *testing.T) {
	for _, s := range []string{
		"a", "z", "A", "Z", "_", "__", "_0", "_9", "a0", "z9", "A_", "_a", "x1", "aB9_cD", "a_b_c", "e1", "x", "xff", "X1F", "f", strings.Repeat("a", 300), strings.Repeat("_9", 9000), upper + lower + digits,
	} {
		expectToken(t, s, 0, tok(api.TName, s, 0))
		expectToken(t, "\n"+s+"+1", 0, tok(api.TName, s, 1))
		expectToken(t, "1 "+s+"#", 1, tok(api.TName, s, 2))
	}
}

// Each byte in a name, behind its first one.
func TestEachByteBehindAName(t *testing.T) {
	for _, text := range []string{"a", "_", "Z9", "inn"} {
		eachByte(func(c string) {
			for _, rest := range []string{"", " ", "=", "#"} {
				want := text
				if strings.Contains(inName, c) {
					want += c
				}
				expectToken(t, text+c+rest, 0, tok(api.TName, want, 0))
			}
		})
	}
}

func TestWords(t *testing.T) {
	for _, s := range allWords {
		expectToken(t, s, 0, tok(api.TWord, s, 0))
		expectToken(t, " "+s+" x", 0, tok(api.TWord, s, 1))
		expectToken(t, "("+s+"(", 1, tok(api.TWord, s, 1))
		expectToken(t, s+"#", 0, tok(api.TWord, s, 0))
		expectToken(t, s+"\xc3", 0, tok(api.TWord, s, 0))
	}
	for _, s := range nearWords() {
		expectToken(t, s, 0, tok(api.TName, s, 0))
		expectToken(t, " "+s+" x", 0, tok(api.TName, s, 1))
	}
}

// nearWords are names that are nearly words.
func nearWords() []string {
	var l []string
	for _, s := range allWords {
		l = append(l, s[1:], s[:len(s)-1], s+s, s+s[len(s)-1:], s[:1]+s, s[:len(s)-1]+"q", "q"+s[1:])
		l = append(l, strings.ToUpper(s), strings.ToUpper(s[:1])+s[1:], s[:len(s)-1]+strings.ToUpper(s[len(s)-1:]))
		for _, c := range "_0z9S" {
			l = append(l, s+string(c))
		}
		l = append(l, "_"+s, "x"+s)
	}
	for _, a := range allWords {
		for _, b := range allWords {
			l = append(l, a+b, a+"_"+b)
		}
	}
	l = slices.DeleteFunc(l, func(s string) bool { return slices.Contains(allWords, s) })
	return append(l, "while", "return", "var", "int", "box", "mailbox", "quantum", "end", "then", "do", "true", "fault", "and", "label", "name")
}

func TestSigns(t *testing.T) {
	if len(allSigns) != 26 {
		t.Fatal("there are 26 signs, not", len(allSigns))
	}
	for _, s := range allSigns {
		expectToken(t, s, 0, tok(api.TSign, s, 0))
		expectToken(t, "\r "+s+" "+s, 0, tok(api.TSign, s, 2))
		expectToken(t, "a"+s+"a", 1, tok(api.TSign, s, 1))
		expectToken(t, "1"+s+"1", 1, tok(api.TSign, s, 1))
		expectToken(t, s+"#"+s, 0, tok(api.TSign, s, 0))
	}
}

// Each byte behind a sign: it is its part where both are a sign.
func TestEachByteBehindASign(t *testing.T) {
	for _, s := range allSigns {
		eachByte(func(c string) {
			want := s
			if slices.Contains(allSigns, s+c) {
				want += c
			}
			expectToken(t, s+c, 0, tok(api.TSign, want, 0))
			expectToken(t, s+c+"=", 0, tok(api.TSign, want, 0))
		})
	}
}

func TestSignsSideBySide(t *testing.T) {
	for src, want := range map[string]string{
		"===": "== =", "====": "== ==", "!==": "!= =", "!=!=": "!= !=", "=!=": "= !=", "<<=": "<< =", "<<<": "<< <", "<<<<": "<< <<", "<==": "<= =", "<=<": "<= <", "<>": "< >", "<>=": "< >=",
		">>=": ">> =", ">>>": ">> >", ">==": ">= =", ">=>": ">= >", "=<": "= <", "=>": "= >", "=>>": "= >>", "==>": "== >", "><": "> <", "&&": "& &", "||": "| |", "^^": "^ ^", "~~": "~ ~", "--": "- -", "++": "+ +",
		"+=": "+ =", "-=": "- =", "*=": "* =", "/=": "/ =", "%=": "% =", "&=": "& =", "|=": "| =", "^=": "^ =", "~=": "~ =", "->": "- >", "**": "* *", "//": "/ /", "/*": "/ *", "%%": "% %", ";;": "; ;", ",,": ", ,",
		"{{": "{ {", "}}": "} }", "((": "( (", "))": ") )", "[[": "[ [", "]]": "] ]", "[]": "[ ]", "{}": "{ }", "();": "( ) ;", "= =": "= =", "< <": "< <", "&^": "& ^", "=-~": "= - ~",
		"< =": "< =", "> \n>": "> >", "<#\n<": "< <", "! #": "bad", "!": "bad", "! =": "bad", "=!": "= bad", "<!": "< bad", "!=!": "!= bad", "==!": "== bad", "=!==": "= != =",
	} {
		if !strings.HasSuffix(want, "bad") {
			want += " end"
		}
		expectAll(t, src, strings.Fields(want)...)
	}
}

func TestWhatBeginsNoToken(t *testing.T) {
	begin := inName + blanks + "#" + strings.Join(allSigns, "")
	begin = strings.ReplaceAll(begin, "!", "")
	n := 0
	eachByte(func(c string) {
		if strings.Contains(begin, c) {
			return
		}
		n++
		for _, rest := range []string{"", "a", "1", " =", "\n=", "#=", ";", "\x00", c} {
			expectBad(t, c+rest, 0, 0)
			expectBad(t, " \n"+c+rest, 0, 2)
			expectBad(t, "a"+c+rest, 1, 1)
		}
	})
	if n != 256-63-4-1-20 {
		t.Error("so many bytes begin no token:", n)
	}
	for _, s := range []string{"é", "\u00ff", "€", "\U0001f600", "\xff\xfe", "\xe2\x82", "١", "ａ", "１", "!a", "!!", "!!=", "!<", "! =", "\x00\x00", "\"a\"", "'a'", ".5", ":=", "?", "@", "$x", "\\", "`"} {
		expectBad(t, s, 0, 0)
		expectBad(t, "x "+s, 1, 2)
		expectToken(t, "x"+s, 0, tok(api.TName, "x", 0))
	}
}

func TestAll(t *testing.T) {
	expectAll(t, "", "end")
	expectAll(t, " \t\r\n# no token\n#", "end")
	expectAll(t, "task", "w:task", "end")
	expectAll(t, "7", "#7", "end")
	expectAll(t, "task a {\n  public input n[0x10]; # some\n  secret k_1;key K;\n}",
		"w:task", "n:a", "{", "w:public", "w:input", "n:n", "[", "#0x10", "]", ";", "w:secret", "n:k_1", ";", "w:key", "n:K", ";", "}", "end")
	expectAll(t, "if(a<=b&c!=4294967295){x[i]=-~sel(c,a,b)<<3;}else{halt;}",
		"w:if", "(", "n:a", "<=", "n:b", "&", "n:c", "!=", "#4294967295", ")", "{", "n:x", "[", "n:i", "]", "=", "-", "~", "w:sel", "(", "n:c", ",", "n:a", ",", "n:b", ")", "<<", "#3", ";", "}",
		"w:else", "{", "w:halt", ";", "}", "end")
	expectAll(t, "for i in 3{send b i;recv b x;out x%2*y/z^w|v>>1>=u>t<s==r+q;}",
		"w:for", "n:i", "w:in", "#3", "{", "w:send", "n:b", "n:i", ";", "w:recv", "n:b", "n:x", ";", "w:out", "n:x", "%", "#2", "*", "n:y", "/", "n:z", "^", "n:w", "|", "n:v", ">>", "#1", ">=", "n:u", ">", "n:t",
		"<", "n:s", "==", "n:r", "+", "n:q", ";", "}", "end")
	expectAll(t, "in in_ inn 0x1 x0 0 0x1+0x2", "w:in", "n:in_", "n:inn", "#0x1", "n:x0", "#0", "#0x1", "+", "#0x2", "end")
}

func TestAllTellsWhereTokensBegin(t *testing.T) {
	want := []api.Token{tok(api.TName, "a", 1), num("0xff", 255, 3), tok(api.TSign, "==", 7), num("9", 9, 13), tok(api.TWord, "in", 15), tok(api.TEnd, "", 19)}
	if l := All(" a 0xff==#!\n 9 in #"); !slices.Equal(l, want) {
		t.Errorf("10.2: %+v, not %+v", l, want)
	}
}

func TestAllEndsWithWhatIsBad(t *testing.T) {
	for _, bad := range []string{"!", "@", "1a", "0x", "0xF", "4294967296", "0x100000000", "\x00", "\x80", "\xff", "é", "\x0b", "99999999999999999999", "!!"} {
		for _, rest := range []string{"", " ", " b = 2;", "\n!", " \"", ";"} {
			expectAll(t, bad+rest, "bad")
			expectAll(t, "#\n "+bad+rest, "bad")
			expectAll(t, "a = 1; "+bad+rest, "n:a", "=", "#1", ";", "bad")
			expectAll(t, "in ("+bad+rest, "w:in", "(", "bad")
			src := "x += # !\n" + bad + rest
			if l := All(src); len(l) != 4 || l[3] != tok(api.TBad, "", 9) {
				t.Errorf("10.2: All(%q): %+v", src, l)
			}
		}
	}
}

func TestIsWord(t *testing.T) {
	for _, s := range allWords {
		if !IsWord(s) {
			t.Errorf("10.1: IsWord(%q) is false", s)
		}
		for _, c := range []string{" ", "\n", "\t", "\r", "#", "\x00", ";", "=", "é"} {
			for _, x := range []string{s + c, c + s, c + s + c} {
				if IsWord(x) {
					t.Errorf("10.1: IsWord(%q)", x)
				}
			}
		}
	}
	for _, s := range append(nearWords(), "", " ", "#", "0", "12", "0x1", "=", "==", "{", "!", "a", "_", "x1", "# task", "task in", "\x00", "\xff") {
		if IsWord(s) {
			t.Errorf("10.1: IsWord(%q)", s)
		}
	}
}

func TestIsName(t *testing.T) {
	names := []string{"a", "Z", "_", "__", "_1", "x1", "a9_Z", "inn", "i", "x0x", "f00", strings.Repeat("n", 5000)}
	for _, s := range append(nearWords(), names...) {
		if !IsName(s) {
			t.Errorf("10.1: IsName(%q) is false", s)
		}
	}
	for _, s := range names {
		for _, c := range []string{" ", "\n", "\t", "\r", "#", "# b", "#\n", "\x00", ";", "=", "é", "-", "\x80", " b", "\nb"} {
			if IsName(s + c) {
				t.Errorf("10.1: IsName(%q)", s+c)
			}
		}
		for _, c := range []string{" ", "\n", "\t", "\r", "#", "# b\n", "#\n", "\x00", "1", "0x", "!", "é", "b ", "b\n"} {
			if IsName(c + s) {
				t.Errorf("10.1: IsName(%q)", c+s)
			}
		}
	}
	no := []string{"", " ", "\n", "#", "# a", "#\na", "#a\n", "0", "9", "12", "0x1", "0xf", "1a", "=", "==", "<<", "{", "!", "!=", "a b", "a.b", "a-b", "\x00", "\x80", "\xff", "é", "né", "4294967296"}
	for _, s := range append(no, allWords...) {
		if IsName(s) {
			t.Errorf("10.1: IsName(%q)", s)
		}
	}
}

// Whoever writes into what All told, or appends to it, changes nothing that is told later on, and nothing told ahead.
func TestWhatIsToldIsNewMemory(t *testing.T) {
	src := strings.Repeat("a 0x1f << in ; ", 20)
	first, second := All(src), All(src)
	want := slices.Clone(first)
	for n := range first {
		first[n] = tok(api.TBad, "other", 99)
	}
	first = append(first, tok(api.TEnd, "", 7))
	for range cap(first) - len(first) {
		first = append(first, tok(api.TBad, "more", 8))
	}
	if !slices.Equal(second, want) || !slices.Equal(All(src), want) {
		t.Error("R3: what was told shares memory")
	}
	if src != strings.Repeat("a 0x1f << in ; ", 20) {
		t.Error("R3: the source is changed")
	}
}

// Other calls between two of the same change nothing.
func TestNothingIsKept(t *testing.T) {
	srcs := []string{"", "a", "!", "task a { }", "<< < <=", "4294967296", "0x1f", " # b\n c", "x \xff"}
	told := func(src string) string {
		x, behind := Next(src, 1)
		return fmt.Sprint(All(src), x, behind, IsWord(src), IsName(src))
	}
	want := map[string]string{}
	for _, src := range srcs {
		want[src] = told(src)
	}
	for range 3 {
		for _, src := range slices.Backward(srcs) {
			if got := told(src); got != want[src] {
				t.Errorf("R1: of %q: %s, not %s", src, got, want[src])
			}
		}
	}
}

// Long sources end soon, whatever they are made of.
func TestLongSources(t *testing.T) {
	const n = 200000
	for _, c := range []struct {
		part   string
		tokens int
	}{
		{"a", 1}, {"1", 0}, {"0", 1}, {" ", 0}, {"#", 0}, {"#\n", 0}, {"<", n / 2}, {"{", n}, {"a ", n}, {"1 ", n}, {"in<", 2 * n}, {"!", 0}, {"\x00", 0}, {"!=", n},
	} {
		l := All(strings.Repeat(c.part, n))
		if len(l) != c.tokens+1 {
			t.Errorf("10.2: %d tokens of %q, not %d", len(l), c.part, c.tokens+1)
		}
	}
}
