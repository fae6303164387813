package manifest

import (
	"fmt"
	"math/big"
	"math/rand"
	"regexp"
	"slices"
	"strings"
	"testing"

	"footman/api"
)

// A second reading of chapter 12: patterns of whole lines; what lines ahead said is gone through anew for each, without
// maps; all that is wrong of a line is gathered, and the least number of an error told.
type reading struct {
	nothing, quantum, task, mailbox, key *regexp.Regexp
	words                                []string
}

func newReading() reading {
	const name, number = ` +([A-Za-z_][A-Za-z_0-9]*)`, ` +([0-9]{1,9})`
	line := func(s string) *regexp.Regexp { return regexp.MustCompile(`^ *` + s + ` *$`) }
	return reading{
		nothing: regexp.MustCompile(`^ *(#(?s:.*))?$`),
		quantum: line(`quantum` + number), task: line(`task` + name), mailbox: line(`mailbox` + name + name + name + number + ` +(public|secret)`), key: line(`key` + name + name),
		words: strings.Fields("task input public secret key if else for in send recv out halt sel"),
	}
}

// forms tells which pattern a line is of, with what its parts behind the first are; "": none.
func (r reading) forms(line string) (string, []string) {
	for _, c := range []struct {
		name    string
		pattern *regexp.Regexp
	}{{"quantum", r.quantum}, {"task", r.task}, {"mailbox", r.mailbox}, {"key", r.key}} {
		l := c.pattern.FindStringSubmatch(line)
		if l == nil {
			continue
		}
		names := l[1:]
		if c.name == "mailbox" {
			names = l[1:4]
		}
		for _, s := range names {
			if slices.Contains(r.words, s) {
				return "", nil
			}
		}
		return c.name, l[1:]
	}
	return "", nil
}

func atoi(s string) int {
	n, _ := new(big.Int).SetString(s, 10)
	return int(n.Int64())
}

func (r reading) parse(s string) (m api.Manifest, line int, e api.Errno) {
	var quanta int
	for n, line := range strings.Split(s, "\n") {
		if r.nothing.MatchString(line) {
			continue
		}
		kind, l := r.forms(line)
		var wrong [10]bool
		switch kind {
		case "":
			wrong[api.ErrForm] = true
		case "quantum":
			m.Quantum = atoi(l[0])
			wrong[api.ErrArg] = m.Quantum < 400 || m.Quantum > 1000000
			wrong[api.ErrName] = quanta > 0
			quanta++
		case "task":
			wrong[api.ErrName] = slices.Contains(m.Tasks, l[0])
			m.Tasks = append(m.Tasks, l[0])
			wrong[api.ErrFull] = len(m.Tasks) > 8
		case "mailbox":
			b := api.Box{Name: l[0], From: l[1], To: l[2], Cap: atoi(l[3]), Secret: l[4] == "secret"}
			wrong[api.ErrArg] = !slices.Contains([]int{1, 2, 3, 4, 5, 6, 7, 8}, b.Cap)
			wrong[api.ErrName] = b.From == b.To || !slices.Contains(m.Tasks, b.From) || !slices.Contains(m.Tasks, b.To)
			for _, x := range m.Boxes {
				wrong[api.ErrName] = wrong[api.ErrName] || x.Name == b.Name
			}
			m.Boxes = append(m.Boxes, b)
			wrong[api.ErrFull] = len(m.Boxes) > 16
		case "key":
			k, owned := api.Slot{Name: l[0], Owner: l[1]}, 0
			wrong[api.ErrName] = !slices.Contains(m.Tasks, k.Owner)
			m.Keys = append(m.Keys, k)
			for n, x := range m.Keys {
				wrong[api.ErrName] = wrong[api.ErrName] || x.Name == k.Name && n < len(m.Keys)-1
				if x.Owner == k.Owner {
					owned++
				}
			}
			wrong[api.ErrFull] = len(m.Keys) > 16 || owned > 6
		}
		for _, e := range []api.Errno{api.ErrForm, api.ErrArg, api.ErrName, api.ErrFull} {
			if wrong[e] {
				return api.Manifest{}, n + 1, e
			}
		}
	}
	if quanta == 0 || len(m.Tasks) == 0 {
		return api.Manifest{}, 0, api.ErrNone
	}
	return m, 0, api.OK
}

func (r reading) text(m api.Manifest) string {
	s := fmt.Sprintf("quantum %d\n", m.Quantum)
	for _, x := range m.Tasks {
		s += fmt.Sprintf("task %s\n", x)
	}
	for _, x := range m.Boxes {
		s += fmt.Sprintf("mailbox %s %s %s %d %s\n", x.Name, x.From, x.To, x.Cap, map[bool]string{false: "public", true: "secret"}[x.Secret])
	}
	for _, x := range m.Keys {
		s += fmt.Sprintf("key %s %s\n", x.Name, x.Owner)
	}
	return s
}

// expectAgain holds what is told of a text against r.
func expectAgain(t *testing.T, r reading, s string) api.Errno {
	t.Helper()
	m, line, e := Parse(s)
	want, wantLine, wantE := r.parse(s)
	if show(m) != show(want) || line != wantLine || e != wantE {
		t.Fatalf("12.1: Parse(%q): %s, line %d, %d; not %s, line %d, %d", s, show(m), line, e, show(want), wantLine, wantE)
	}
	if e != api.OK {
		return e
	}
	text := Text(m)
	if text != r.text(m) {
		t.Fatalf("12.2: Text(%s): %q", show(m), text)
	}
	if again, line, e := Parse(text); e != api.OK || line != 0 || show(again) != show(m) {
		t.Fatalf("12.3: Parse(%q): %s, line %d, %d; not %s", text, show(again), line, e, show(m))
	}
	return e
}

// Each byte put ahead of, and in place of, each byte of a text, and each byte left out.
func TestAgainEveryByteTurned(t *testing.T) {
	r := newReading()
	for _, s := range []string{
		"# s\n\n quantum 0500\ntask a\ntask  b9\nmailbox m a b9 3 public\nmailbox n b9 a 8 secret \nkey k a\nkey a b9\n",
		"task a\nkey k a\nquantum 1000000",
	} {
		for at := range len(s) + 1 {
			for c := range 256 {
				b := string([]byte{byte(c)})
				expectAgain(t, r, s[:at]+b+s[at:])
				if at < len(s) {
					expectAgain(t, r, s[:at]+b+s[at+1:])
				}
			}
			expectAgain(t, r, s[:at])
			expectAgain(t, r, s[at:])
			if at < len(s) {
				expectAgain(t, r, s[:at]+s[at+1:])
			}
		}
	}
}

// Lines left out, told twice, and changed for one another.
func TestAgainLinesTurned(t *testing.T) {
	r := newReading()
	for _, s := range []string{service, greatest()} {
		l := strings.SplitAfter(s, "\n")
		for n := range l {
			expectAgain(t, r, strings.Join(slices.Delete(slices.Clone(l), n, n+1), ""))
			for k := range l {
				expectAgain(t, r, strings.Join(slices.Insert(slices.Clone(l), k, l[n]), ""))
				other := slices.Clone(l)
				other[n], other[k] = other[k], other[n]
				expectAgain(t, r, strings.Join(other, ""))
			}
		}
	}
}

// A maker writes texts by chance; the more careful it is, the fewer of its lines are wrong.
type maker struct {
	*rand.Rand
	careful int
}

func (r maker) pick(l ...string) string {
	return l[r.Intn(len(l))]
}

func (r maker) slip() bool {
	return r.Intn(r.careful) == 0
}

func (r maker) name(s string, n int) string {
	if r.slip() {
		return r.pick("in", "1", "a-b", "key", "x\t", "é", "_", "Q", "", "a b", "task", "#", "t0")
	}
	return fmt.Sprint(s, n)
}

func (r maker) number(least, most int) string {
	n := least + r.Intn(most-least+1)
	if r.slip() {
		n = r.Intn(2 * most)
	}
	return r.pick("", "", "0", "00") + fmt.Sprint(n)
}

func (r maker) line() string {
	if r.slip() {
		return r.pick("what", "quantum", "task", "key k", "mailbox m t0 t1 1", "quantum 9 9", "quantum 500", "quantum 399", "quantum 1000001", "Task t0", "task t0 t1", "key a t0 t1", "mailbox m t0 t0 1 public", "\t", "\x00")
	}
	from := r.Intn(5)
	switch n := r.Intn(20); {
	case n < 3:
		return r.pick("", " ", "# x y", "#", "  #\xff")
	case n < 5:
		return "task " + r.name("t", 5+r.Intn(20))
	case n < 12:
		return strings.Join([]string{"mailbox", r.name("m", r.Intn(500)), r.name("t", from), r.name("t", (from+1+r.Intn(4))%5), r.number(1, 8), r.pick("public", "secret")}, " ")
	}
	return strings.Join([]string{"key", r.name("k", r.Intn(500)), r.name("t", from)}, " ")
}

func (r maker) text() string {
	l := []string{"quantum " + r.number(400, 1000000), "task t0", "task t1", "task t2", "task t3", "task t4"}[r.Intn(5)/4:]
	for range r.Intn(50) {
		l = append(l, r.line())
	}
	if r.Intn(6) == 0 {
		r.Shuffle(min(9, len(l)), func(a, b int) { l[a], l[b] = l[b], l[a] })
	}
	for n := range l {
		if r.Intn(8) == 0 {
			l[n] = r.pick("", " ", "   ") + strings.ReplaceAll(l[n], " ", r.pick(" ", "  ", "      ")) + r.pick("", " ", "  ")
		}
	}
	return strings.Join(l, "\n") + r.pick("", "\n", "\n\n")
}

func TestAgainTextsOfChance(t *testing.T) {
	chance, r := rand.New(rand.NewSource(12)), newReading()
	var told [api.ErrFull + 1]int
	for n := range 40000 {
		told[expectAgain(t, r, maker{chance, 10 + 100*(n%20)}.text())]++
	}
	for _, e := range []api.Errno{api.OK, api.ErrNone, api.ErrForm, api.ErrArg, api.ErrName, api.ErrFull} {
		if told[e] < 500 {
			t.Errorf("12.1: only %d texts of error %d: %v", told[e], e, told)
		}
	}
}

// Places are those of a search from the end on, in which the first of a name is found last.
func TestAgainPlaces(t *testing.T) {
	chance := rand.New(rand.NewSource(122))
	for range 20000 {
		m, _, _ := Parse(maker{chance, 1000}.text())
		name := maker{chance, 20}.pick("t", "m", "k", "", "T") + maker{chance, 20}.pick("", "0", "1", "2", "3", "4", "5", "6", "7", "8", "9", "10", "00")
		task, box, key := -1, -1, -1
		for n, x := range slices.Backward(m.Tasks) {
			if x == name {
				task = n
			}
		}
		for n, x := range slices.Backward(m.Boxes) {
			if x.Name == name {
				box = n
			}
		}
		for n, x := range slices.Backward(m.Keys) {
			if x.Name == name {
				key = n
			}
		}
		expectPlaces(t, m, name, task, box, key)
	}
}
