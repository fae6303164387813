package manifest

import (
	"strings"
	"testing"

	"footman/api"
)

const head = "quantum 400\ntask a\ntask b\n"

// expectLine holds a line behind head, and behind head with much else.
func expectLine(t *testing.T, line string, want api.Errno) {
	t.Helper()
	between := "# x\n\nmailbox q b a 8 secret\nkey q b\n"
	behind := "\nwhat\ntask\nquantum 0\nkey q q\n"
	for _, c := range []struct{ ahead, behind string }{{head, ""}, {head, "\n"}, {head, behind}, {head + between, ""}, {head + between, behind}} {
		at := strings.Count(c.ahead, "\n") + 1
		if want != api.OK {
			expectWrong(t, c.ahead+line+c.behind, at, want)
		} else if c.behind == behind {
			expectWrong(t, c.ahead+line+c.behind, at+1, api.ErrForm)
		} else {
			expectOK(t, c.ahead+line+c.behind)
		}
	}
}

func TestOtherFirstParts(t *testing.T) {
	for _, first := range []string{
		"quanta", "Quantum", "QUANTUM", "quantu", "quantums", "tasks", "Task", "tas", "mailboxes", "mail", "Mailbox", "box", "keys", "Key", "ke", "slot", "x", "1", "400", "*", "=", "public", "secret", "\x00", "\xff", "\t", "\r", "\tquantum", "quantum\t", "task\r", "é", "\"task\"", "//", ";", "quantum;", "task:", "!#",
	} {
		for _, rest := range []string{"", " ", " c", " 400", " k a", " m a b 1 public", " #", " 1 2 3 4 5 6 7 8"} {
			expectLine(t, first+rest, api.ErrForm)
			expectLine(t, "  "+first+rest, api.ErrForm)
		}
	}
}

func TestMoreAndFewerParts(t *testing.T) {
	for _, l := range [][]string{{"quantum", "400"}, {"task", "c"}, {"mailbox", "m", "a", "b", "1", "public"}, {"key", "k", "a"}} {
		for n := range l {
			expectLine(t, strings.Join(l[:n+1], " "), lineOf(l, n+1))
			expectLine(t, " "+strings.Join(l[:n+1], "  ")+"   ", lineOf(l, n+1))
		}
		line := strings.Join(l, " ")
		for _, more := range []string{"x", "1", "#", "public", l[len(l)-1], "a b", "1 2 3 4 5", "# a comment", "\r", "\t", "\x00"} {
			expectLine(t, line+" "+more, api.ErrForm)
			expectLine(t, line+"   "+more+"  ", api.ErrForm)
		}
		expectLine(t, line+" "+strings.Repeat("x ", 1000), api.ErrForm)
		expectLine(t, line+" "+line, api.ErrForm)
		expectLine(t, line+"\t"+line, api.ErrForm)
	}
	for n := range 12 {
		for first, right := range map[string]int{"quantum": 1, "task": 1, "mailbox": 5, "key": 2} {
			if n != right {
				expectLine(t, first+strings.Repeat(" c", n), api.ErrForm)
				expectLine(t, first+strings.Repeat(" 4", n), api.ErrForm)
			}
		}
	}
}

// lineOf is what n parts of a line come to: all of a second quantum's are a name too many.
func lineOf(l []string, n int) api.Errno {
	switch {
	case n < len(l):
		return api.ErrForm
	case l[0] == "quantum":
		return api.ErrName
	}
	return api.OK
}

// noNames are none, in each place that asks for one.
func noNames() []string {
	return []string{
		"1", "0", "9a", "0x1", "400", "task", "input", "public", "secret", "key", "if", "else", "for", "in", "send", "recv", "out", "halt", "sel",
		"a-b", "a.b", "a,", "a;", "a#", "#", "#a", "a+", "-", "=", "==", "!", "(a)", "\"a\"", "'a'", "é", "aé", "\xff", "a\xff", "\x00", "a\x00", "\t", "\ta", "a\t", "a\tb", "\r", "a\r", "\x0b", "\x0c", "\u00a0", "a\u00a0b", "\u2003", "ａ", "1_", "{", "@", "[", "`", "a~",
	}
}

func TestWhatIsNoName(t *testing.T) {
	for _, s := range noNames() {
		for _, line := range []string{
			"task ¿", "mailbox ¿ a b 1 public", "mailbox m ¿ b 1 public", "mailbox m a ¿ 1 public", "key ¿ a", "key k ¿", "mailbox ¿ ¿ ¿ 1 secret", "key ¿ ¿",
		} {
			expectLine(t, strings.ReplaceAll(line, "¿", s), api.ErrForm)
		}
	}
}

func TestWhatIsNoNumber(t *testing.T) {
	for _, s := range []string{
		"x", "a", "-1", "+1", "-400", "+400", "1.0", "1.", ".1", "1e3", "0x1", "0x190", "0b1", "0o1", "1_0", "4_00", "_1", "1,", "1;", "1#", "#1", "1\t", "\t1", "1\r", "1\x00", "\xff", "1\xff", "١", "４００", "½", "1a", "a1", "f", "ff", "--1", "+-1", "()", "public", "quantum", "NaN", "inf", "''",
		"1234567890", "0000000001", "0000000008", "0000000400", "0001000000", "9999999999", "4294967296", "4294967297", "4294967696", "10000000000", "18446744073709551616", "18446744073709551617", "18446744073709552016", "00000000000000000000000000000400", "99999999999999999999999999999999",
	} {
		expectLine(t, "quantum "+s, api.ErrForm)
		expectWrong(t, "quantum "+s+"\ntask a", 1, api.ErrForm)
		expectLine(t, "mailbox m a b "+s+" public", api.ErrForm)
		expectLine(t, "mailbox m a b "+s+" secret", api.ErrForm)
	}
}

func TestWhatIsNoLabel(t *testing.T) {
	for _, s := range append(noNames(), "Public", "PUBLIC", "publi", "publics", "Secret", "SECRET", "secre", "secrets", "x", "a", "3", "publicsecret", "public,", "public;", "\"public\"", "public#", "#public", "private") {
		if s != "public" && s != "secret" {
			expectLine(t, "mailbox m a b 1 "+s, api.ErrForm)
		}
	}
}

// Bytes that are neither blanks, nor 10, nor of names are of a part, wherever they stand.
func TestOtherBytes(t *testing.T) {
	for _, line := range []string{"task c", "mailbox m a b 1 public", "key k a", "quantum 400"} {
		for at := range len(line) + 1 {
			for c := range 256 {
				b := byte(c)
				if b == ' ' || b == '\n' || b == '_' || '0' <= b && b <= '9' || 'A' <= b && b <= 'Z' || 'a' <= b && b <= 'z' {
					continue
				}
				s := line[:at] + string([]byte{b}) + line[at:]
				if at == 0 && b == '#' {
					expectLine(t, s, api.OK)
				} else {
					expectLine(t, s, api.ErrForm)
				}
			}
		}
		if t.Failed() {
			t.FailNow()
		}
	}
}

func TestNumbersThatMayNotBe(t *testing.T) {
	for _, s := range []string{"0", "1", "399", "00", "000000399", "40", "39", "1000001", "1000399", "001000001", "10000000", "999999999", "100000000", "000000000"} {
		expectLine(t, "quantum "+s, api.ErrArg)
		expectWrong(t, "quantum "+s, 1, api.ErrArg)
		expectWrong(t, "\n\n# x\ntask a\nquantum "+s+"\ntask a", 5, api.ErrArg)
	}
	for _, s := range []string{"0", "9", "00", "09", "000000009", "000000000", "10", "11", "16", "18", "80", "100", "256", "257", "264", "400", "65537", "999999999"} {
		expectLine(t, "mailbox m a b "+s+" public", api.ErrArg)
		expectLine(t, "mailbox m a b "+s+" secret", api.ErrArg)
	}
}

func TestTheSecondQuantum(t *testing.T) {
	for _, n := range []string{"400", "401", "1000000", "000000400"} {
		expectLine(t, "quantum "+n, api.ErrName)
		expectLine(t, "  quantum  "+n+" ", api.ErrName)
		expectWrong(t, "quantum 1000000\nquantum "+n, 2, api.ErrName)
	}
	expectWrong(t, "quantum 400\nquantum 400\nquantum 400", 2, api.ErrName)
	expectWrong(t, "task a\nquantum 400\ntask b\nquantum 500\n", 4, api.ErrName)
}

func TestNamesThatStandTwice(t *testing.T) {
	expectLine(t, "task a", api.ErrName)
	expectLine(t, "task  b ", api.ErrName)
	expectWrong(t, "task a\ntask a", 2, api.ErrName)
	expectWrong(t, "task a\ntask b\ntask c\n\ntask b\n", 5, api.ErrName)
	ahead := head + "mailbox m a b 1 public\nmailbox n b a 2 secret\nkey k a\nkey j b\n"
	for _, line := range []string{
		"mailbox m a b 1 public", "mailbox m b a 1 public", "mailbox m a b 2 secret", "mailbox n a b 1 public", "mailbox n b a 2 secret", "key k a", "key k b", "key j a", "key j b", "task a", "task b",
	} {
		expectWrong(t, ahead+line, 8, api.ErrName)
		expectWrong(t, ahead+"task c\n"+line+"\nwhat", 9, api.ErrName)
	}
	for _, line := range []string{"mailbox k a b 1 public", "mailbox a a b 1 public", "key m a", "key a a", "key b a", "task m", "task k"} {
		expectOK(t, ahead+line)
	}
	expectWrong(t, ahead+"task m\ntask k\nmailbox k a b 1 public\nkey m a\nmailbox k a b 1 public", 12, api.ErrName)
	expectWrong(t, ahead+"task m\ntask k\nmailbox k a b 1 public\nkey m a\nkey m b", 12, api.ErrName)
	expectWrong(t, ahead+"task m\ntask k\nmailbox k a b 1 public\nkey m a\ntask k", 12, api.ErrName)
}

// Whom a line names stands ahead of it, as a task.
func TestNamesOfNoTaskAhead(t *testing.T) {
	for _, line := range []string{
		"mailbox m c b 1 public", "mailbox m a c 1 public", "mailbox m c d 1 public", "mailbox m c c 1 public", "mailbox m A b 1 public", "mailbox m a B 1 public", "mailbox m aa b 1 public", "mailbox m m b 1 public", "mailbox m a m 1 public", "mailbox a q b 1 public", "mailbox m a q 1 public",
		"key k c", "key k A", "key k ab", "key k k", "key k q", "key a q", "key c c",
	} {
		expectLine(t, line, api.ErrName)
		expectWrong(t, head+line+"\ntask c\ntask d\ntask q\ntask m\ntask k", 4, api.ErrName)
	}
	for _, s := range []string{"key k a\ntask a", "mailbox m a b 1 public\ntask a\ntask b", "key k a", "mailbox m a b 1 public"} {
		expectWrong(t, s, 1, api.ErrName)
		expectWrong(t, "quantum 400\n"+s+"\n", 2, api.ErrName)
	}
	expectWrong(t, "task a\nmailbox m a b 1 public\ntask b\nquantum 400", 2, api.ErrName)
	expectWrong(t, "task b\nmailbox m a b 1 public\ntask a\nquantum 400", 2, api.ErrName)
	expectWrong(t, "task a\n#task b\nkey k b\ntask b\nquantum 400", 3, api.ErrName)
	expectOK(t, "task a\ntask b\nkey k b\nmailbox m a b 1 public\nquantum 400")
}

func TestFromAndToAreOne(t *testing.T) {
	expectLine(t, "mailbox m a a 1 public", api.ErrName)
	expectLine(t, "mailbox m b b 8 secret", api.ErrName)
	expectLine(t, "mailbox a a a 8 secret", api.ErrName)
	expectWrong(t, "quantum 400\ntask a\nmailbox m a a 1 public", 3, api.ErrName)
	expectOK(t, head+"mailbox a a b 1 public\nmailbox b b a 1 public")
}

func TestOneTooMany(t *testing.T) {
	tasks := many(api.MaxTasks, "task t%d")
	expectOK(t, tasks+"quantum 400")
	expectWrong(t, tasks+"task t", 9, api.ErrFull)
	expectWrong(t, "quantum 400\n\n"+tasks+"#\ntask t8\ntask t9\n", 12, api.ErrFull)

	boxes := head + many(api.MaxBoxes, "mailbox m%d a b 1 public")
	expectOK(t, boxes)
	expectOK(t, boxes+"key k a\ntask c")
	expectWrong(t, boxes+"mailbox m a b 1 public", 20, api.ErrFull)
	expectWrong(t, boxes+"mailbox m b a 8 secret\nwhat", 20, api.ErrFull)

	keys := head + "task c\n" + many(6, "key k%d a") + many(6, "key l%d b") + many(4, "key m%d c")
	expectOK(t, keys)
	expectOK(t, keys+"mailbox m a b 1 public\ntask d")
	for _, owner := range []string{"a", "b", "c"} {
		expectWrong(t, keys+"key k "+owner, 21, api.ErrFull)
	}
	expectWrong(t, keys+"task d\nkey k d", 22, api.ErrFull)

	six := head + many(6, "key k%d a")
	expectOK(t, six)
	expectOK(t, six+"key k b")
	expectWrong(t, six+"key k a", 10, api.ErrFull)
	expectWrong(t, six+"key a b\nkey b b\ntask k\nkey k a", 13, api.ErrFull)
}

// A line that is wrong in several ways: of ErrForm, ErrArg, ErrName, ErrFull the first is told.
func TestWrongInSeveralWays(t *testing.T) {
	tasks := many(api.MaxTasks-2, "task t%d")
	boxes := many(api.MaxBoxes, "mailbox m%d a b 1 public")
	keys := many(6, "key k%d a")
	full := "quantum 400\ntask a\ntask b\n" + tasks + boxes + keys + many(6, "key l%d b") + many(api.MaxKeys-12, "key n%d t0")
	if expectOK(t, full); t.Failed() {
		t.FailNow()
	}
	for line, want := range map[string]api.Errno{
		"quantum 0 0": api.ErrForm, "quantum 1000000000": api.ErrForm, "quantum 399 x": api.ErrForm, "quantum 500 500": api.ErrForm, "quantum x": api.ErrForm,
		"quantum 399": api.ErrArg, "quantum 1000001": api.ErrArg, "quantum 0": api.ErrArg,
		"quantum 400": api.ErrName,

		"task a a": api.ErrForm, "task 1": api.ErrForm, "task in": api.ErrForm, "task": api.ErrForm, "task c d": api.ErrForm,
		"task a": api.ErrName, "task t5": api.ErrName,
		"task c": api.ErrFull, "task m0": api.ErrFull,

		"mailbox m0 a a 9": api.ErrForm, "mailbox 1 a a 9 public": api.ErrForm, "mailbox m0 in b 0 public": api.ErrForm, "mailbox m0 a in 0 public": api.ErrForm, "mailbox m0 a a 1234567890 public": api.ErrForm, "mailbox m0 c c 0 label": api.ErrForm, "mailbox m c d x secret": api.ErrForm, "mailbox m0 a a 0 public x": api.ErrForm,
		"mailbox m a b 1 Public": api.ErrForm, "mailbox m a b -1 public": api.ErrForm,
		"mailbox m0 a a 9 public": api.ErrArg, "mailbox m0 c d 0 secret": api.ErrArg, "mailbox m c c 9 public": api.ErrArg, "mailbox m a b 0 public": api.ErrArg, "mailbox m0 a b 9 public": api.ErrArg, "mailbox m c b 9 public": api.ErrArg, "mailbox m a c 9 public": api.ErrArg, "mailbox m a a 9 public": api.ErrArg,
		"mailbox m0 a b 1 public": api.ErrName, "mailbox m c b 1 public": api.ErrName, "mailbox m a c 1 public": api.ErrName, "mailbox m a a 1 public": api.ErrName, "mailbox m15 c c 8 secret": api.ErrName,
		"mailbox m a b 1 public": api.ErrFull, "mailbox k0 a b 1 public": api.ErrFull,

		"key k0 a x": api.ErrForm, "key 1 c": api.ErrForm, "key k0 in": api.ErrForm, "key k0": api.ErrForm, "key k 1": api.ErrForm,
		"key k0 a": api.ErrName, "key k0 t0": api.ErrName, "key k c": api.ErrName, "key k0 c": api.ErrName, "key l5 b": api.ErrName,
		"key k a": api.ErrFull, "key k t0": api.ErrFull, "key k t1": api.ErrFull, "key m0 a": api.ErrFull,
	} {
		expectWrong(t, full+line, strings.Count(full, "\n")+1, want)
		expectWrong(t, full+line+"\nwhat", strings.Count(full, "\n")+1, want)
	}
	expectWrong(t, head+keys+"key k0 a", 10, api.ErrName)
	expectWrong(t, head+keys+"key k c", 10, api.ErrName)
	expectWrong(t, head+keys+"key k in", 10, api.ErrForm)
}

func TestTheFirstOfSeveralLines(t *testing.T) {
	lines := []struct {
		s string
		e api.Errno
	}{{"what", api.ErrForm}, {"task in", api.ErrForm}, {"quantum 1", api.ErrArg}, {"mailbox m a b 9 public", api.ErrArg}, {"task a", api.ErrName}, {"quantum 500", api.ErrName}, {"key k c", api.ErrName}, {"mailbox m b b 8 public", api.ErrName}}
	for _, x := range lines {
		for _, y := range lines {
			expectWrong(t, head+x.s+"\n"+y.s, 4, x.e)
			expectWrong(t, head+x.s+"\n"+y.s+"\n"+x.s, 4, x.e)
			expectWrong(t, head+"\n#\n"+x.s+"\ntask c\n"+y.s, 6, x.e)
		}
		expectWrong(t, head+many(6, "task t%d")+"task t\n"+x.s, 10, api.ErrFull)
	}
	expectWrong(t, "task a\ntask a\nwhat", 2, api.ErrName)
	expectWrong(t, "what", 1, api.ErrForm)
	expectWrong(t, "task a\nwhat", 2, api.ErrForm)
	expectWrong(t, "quantum 400\nwhat", 2, api.ErrForm)
}

// A line is wrong ahead of what is missing; what is wrong says nothing that later lines lean on.
func TestWrongAheadOfMissing(t *testing.T) {
	expectWrong(t, "quantum 399", 1, api.ErrArg)
	expectWrong(t, "key k a", 1, api.ErrName)
	expectWrong(t, "task a\ntask in", 2, api.ErrForm)
	expectWrong(t, "quantum 400\n\n\nmailbox m a b 1 public", 4, api.ErrName)
}
