package manifest

import (
	"fmt"
	"slices"
	"strings"
	"testing"
	"unsafe"

	"footman/api"
)

// service says each kind of line, of mailboxes both labels, with what says nothing between.
const service = "# a service\n\nquantum 500\ntask ann\n  \ntask bob\n #task c\ntask _c9\nmailbox m ann bob 3 public\nmailbox n bob ann 8 secret\n#\nmailbox o _c9 ann 1 secret\nkey k ann\nkey j _c9\n"

func serviceManifest() api.Manifest {
	return api.Manifest{
		Quantum: 500,
		Tasks:   []string{"ann", "bob", "_c9"},
		Boxes:   []api.Box{{Name: "m", From: "ann", To: "bob", Cap: 3}, {Name: "n", From: "bob", To: "ann", Cap: 8, Secret: true}, {Name: "o", From: "_c9", To: "ann", Cap: 1, Secret: true}},
		Keys:    []api.Slot{{Name: "k", Owner: "ann"}, {Name: "j", Owner: "_c9"}},
	}
}

// show tells all of a manifest; a nil list and an empty one are shown alike.
func show(m api.Manifest) string {
	return fmt.Sprintf("%d %q %+v %+v", m.Quantum, m.Tasks, m.Boxes, m.Keys)
}

func expectManifest(t *testing.T, s string, want api.Manifest) {
	t.Helper()
	m, line, e := Parse(s)
	if e != api.OK || line != 0 || show(m) != show(want) {
		t.Errorf("12.1: Parse(%q): %s, %d, %d; not %s", s, show(m), line, e, show(want))
	}
}

func expectWrong(t *testing.T, s string, line int, want api.Errno) {
	t.Helper()
	m, l, e := Parse(s)
	if e != want || l != line || show(m) != show(api.Manifest{}) {
		t.Errorf("12.1: Parse(%q): %s, line %d, %d; not line %d, %d", s, show(m), l, e, line, want)
	}
}

func expectOK(t *testing.T, s string) api.Manifest {
	t.Helper()
	m, line, e := Parse(s)
	if e != api.OK || line != 0 {
		t.Errorf("12.1: Parse(%q): line %d, %d", s, line, e)
	}
	return m
}

// many is n lines; in format %d is the number of each, from 0 on.
func many(n int, format string) string {
	var s strings.Builder
	for i := range n {
		fmt.Fprintf(&s, format+"\n", i)
	}
	return s.String()
}

// greatest says as many tasks, mailboxes and keys as may be, with as many keys of two owners as may be.
func greatest() string {
	return "quantum 1000000\n" + many(api.MaxTasks, "task t%d") + many(api.MaxBoxes, "mailbox m%d t7 t0 8 secret") +
		many(6, "key k%d t0") + many(6, "key l%d t7") + many(api.MaxKeys-12, "key m%d t3")
}

func TestParseOfAService(t *testing.T) {
	expectManifest(t, service, serviceManifest())
	expectManifest(t, "quantum 400\ntask a\n", api.Manifest{Quantum: 400, Tasks: []string{"a"}})
	expectManifest(t, "task a\ntask b\nmailbox x b a 2 public\nquantum 77777", api.Manifest{Quantum: 77777, Tasks: []string{"a", "b"}, Boxes: []api.Box{{Name: "x", From: "b", To: "a", Cap: 2}}})
	expectManifest(t, "task a\nkey z a\nquantum 401", api.Manifest{Quantum: 401, Tasks: []string{"a"}, Keys: []api.Slot{{Name: "z", Owner: "a"}}})
}

// Lines may be in any order, but for names that stand ahead.
func TestParseOfMixedLines(t *testing.T) {
	expectManifest(t, "task b\nkey y b\ntask a\nmailbox n a b 1 secret\nkey x a\nquantum 999999\nmailbox m b a 5 public\ntask c\nkey z b\nmailbox l c a 8 public", api.Manifest{
		Quantum: 999999,
		Tasks:   []string{"b", "a", "c"},
		Boxes:   []api.Box{{Name: "n", From: "a", To: "b", Cap: 1, Secret: true}, {Name: "m", From: "b", To: "a", Cap: 5}, {Name: "l", From: "c", To: "a", Cap: 8}},
		Keys:    []api.Slot{{Name: "y", Owner: "b"}, {Name: "x", Owner: "a"}, {Name: "z", Owner: "b"}},
	})
}

func TestWhereTheQuantumStands(t *testing.T) {
	lines := []string{"task ann", "task bob", "mailbox m ann bob 1 public", "key k ann"}
	want := show(expectOK(t, "quantum 512\n"+strings.Join(lines, "\n")))
	for at := range len(lines) + 1 {
		for _, quantum := range []string{"quantum 512", " quantum 512", "   quantum   512   "} {
			s := strings.Join(slices.Insert(slices.Clone(lines), at, quantum), "\n")
			for _, end := range []string{"", "\n", "\n\n", "\n  ", " ", "\n#"} {
				if got := show(expectOK(t, s+end)); got != want {
					t.Errorf("12.1: Parse(%q): %s, not %s", s+end, got, want)
				}
			}
		}
	}
}

func TestLinesThatSayNothing(t *testing.T) {
	lines := strings.SplitAfter(service, "\n")
	for _, nothing := range []string{"", " ", "     ", "#", "##", "# #", " #", "   # quantum 1", "#quantum 1", "#task ann", "#\ttask", "#\x00\xff", "#\r", "# é", "# " + strings.Repeat("a ", 100), "#" + strings.Repeat(" ", 100)} {
		for at := range len(lines) + 1 {
			s := strings.Join(slices.Insert(slices.Clone(lines), at, nothing+"\n"), "")
			expectManifest(t, s, serviceManifest())
			expectWrong(t, s+nothing+"\nx", strings.Count(service, "\n")+3, api.ErrForm)
		}
	}
}

// Only the first part begins a comment.
func TestNoCommentBehindParts(t *testing.T) {
	for _, line := range []string{"task b #", "task b # c", "task b#", "task #b", "quantum 400 #", "quantum #400", "quantum# 400", "mailbox m a c 1 public #", "mailbox m a c 1 #public", "mailbox #m a c 1 public", "key k a #", "key k a# b", "key k #a", "key #"} {
		expectWrong(t, "task a\ntask c\n"+line, 3, api.ErrForm)
	}
}

func TestBlanksAroundParts(t *testing.T) {
	wide := strings.ReplaceAll(service, " ", "    ")
	expectManifest(t, wide, serviceManifest())
	expectManifest(t, "  "+strings.ReplaceAll(service, "\n", "\n "), serviceManifest())
	expectManifest(t, strings.ReplaceAll(service, "\n", "   \n"), serviceManifest())
	expectManifest(t, " "+strings.ReplaceAll(wide, "\n", "  \n  ")+" ", serviceManifest())
	blanks := strings.Repeat(" ", 100000)
	expectManifest(t, blanks+"quantum"+blanks+"400"+blanks+"\n"+blanks+"task"+blanks+"a"+blanks, api.Manifest{Quantum: 400, Tasks: []string{"a"}})
}

func TestTextsWithAndWithoutALastByte10(t *testing.T) {
	for _, s := range []string{service, "quantum 400\ntask a\n", "task a\nquantum 400\n", greatest()} {
		if want := show(expectOK(t, s)); show(expectOK(t, strings.TrimSuffix(s, "\n"))) != want || show(expectOK(t, s+"\n\n")) != want {
			t.Errorf("12.1: bytes 10 at the end of %q say something", s)
		}
	}
	expectWrong(t, "task a\nx", 2, api.ErrForm)
	expectWrong(t, "task a\nx\n", 2, api.ErrForm)
	expectWrong(t, "\n\n\nx\n\n", 4, api.ErrForm)
}

func TestWhatIsMissing(t *testing.T) {
	for _, s := range []string{
		"", " ", "\n", "\n\n\n", "#", "# quantum 400\n# task a", "quantum 400", "quantum 400\n", "\nquantum 1000000\n#task a", "task a", "task a\n", " task a\n\n", "task a\n#quantum 400",
		"task a\ntask b\nmailbox m a b 1 public\nkey k a", many(api.MaxTasks, "task t%d"),
	} {
		expectWrong(t, s, 0, api.ErrNone)
		if s != "" {
			expectWrong(t, s+"\n*", strings.Count(s, "\n")+2, api.ErrForm)
		}
	}
}

func TestNumbers(t *testing.T) {
	for s, want := range map[string]int{
		"400": 400, "401": 401, "999999": 999999, "1000000": 1000000, "0400": 400, "00000400": 400, "000000400": 400, "000001000": 1000, "001000000": 1000000, "01000000": 1000000, "4096": 4096, "987654": 987654, "123456": 123456,
	} {
		expectManifest(t, "task a\nquantum "+s, api.Manifest{Quantum: want, Tasks: []string{"a"}})
	}
	for n := 1; n <= 8; n++ {
		for ahead := range 9 {
			s := strings.Repeat("0", ahead) + fmt.Sprint(n)
			expectManifest(t, "task a\nquantum 400\ntask b\nmailbox m a b "+s+" public", api.Manifest{
				Quantum: 400, Tasks: []string{"a", "b"}, Boxes: []api.Box{{Name: "m", From: "a", To: "b", Cap: n}},
			})
		}
	}
}

// Each quantum near the bounds, and some between.
func TestQuanta(t *testing.T) {
	for n := range 1003000 {
		if n > 3000 && n < 997000 && n%1009 != 0 {
			continue
		}
		m, line, e := Parse(fmt.Sprint("task a\nquantum ", n))
		if n < 400 || n > 1000000 {
			if e != api.ErrArg || line != 2 || m.Quantum != 0 {
				t.Fatalf("12.1: quantum %d: %d, line %d, %d", n, m.Quantum, line, e)
			}
		} else if e != api.OK || m.Quantum != n {
			t.Fatalf("12.1: quantum %d: %d, line %d, %d", n, m.Quantum, line, e)
		}
	}
}

func TestNames(t *testing.T) {
	for _, name := range []string{
		"a", "Z", "_", "__", "_1", "x1", "a9_Z", "i", "inn", "tasks", "Task", "TASK", "keys", "quantum", "mailbox", "Mailbox", "mailboxes", "name", "f00", "x0x", strings.Repeat("n", 5000),
	} {
		s := "quantum 400\ntask " + name + "\ntask other\nmailbox " + name + " " + name + " other 1 secret\nmailbox m other " + name + " 2 public\nkey " + name + " " + name
		expectManifest(t, s, api.Manifest{
			Quantum: 400, Tasks: []string{name, "other"},
			Boxes: []api.Box{{Name: name, From: name, To: "other", Cap: 1, Secret: true}, {Name: "m", From: "other", To: name, Cap: 2}},
			Keys:  []api.Slot{{Name: name, Owner: name}},
		})
	}
}

// Names are parted by each byte of them, whatever stands behind.
func TestNamesThatAreAlike(t *testing.T) {
	names := []string{"a", "A", "aa", "a_", "_a", "a0", "a00", "_"}
	s := "quantum 400\n"
	for _, name := range names {
		s += "task " + name + "\n"
	}
	for n, name := range names {
		s += "mailbox " + name + " " + name + " " + names[(n+1)%len(names)] + " 1 public\nkey " + name + " " + name + "\n"
	}
	m := expectOK(t, s)
	for n, name := range names {
		if m.Tasks[n] != name || m.Boxes[n].Name != name || m.Boxes[n].From != name || m.Keys[n].Name != name || m.Keys[n].Owner != name {
			t.Errorf("12.1: %s is not what stands at %d: %s", name, n, show(m))
		}
	}
}

func TestOneNameOfEachKind(t *testing.T) {
	m := expectOK(t, "task b\ntask a\nkey k a\nkey a a\nmailbox m a b 1 public\nmailbox n a b 1 public\nmailbox a a b 1 public\nquantum 400")
	expectPlaces(t, m, "a", 1, 2, 1)
	expectPlaces(t, m, "b", 0, -1, -1)
	expectPlaces(t, m, "k", -1, -1, 0)
	expectPlaces(t, m, "n", -1, 1, -1)
}

func TestTheMostThatMayBe(t *testing.T) {
	m := expectOK(t, greatest())
	if len(m.Tasks) != api.MaxTasks || len(m.Boxes) != api.MaxBoxes || len(m.Keys) != api.MaxKeys {
		t.Fatal("12.1: so many:", show(m))
	}
	for n, b := range m.Boxes {
		if b != (api.Box{Name: fmt.Sprint("m", n), From: "t7", To: "t0", Cap: 8, Secret: true}) {
			t.Errorf("12.1: mailbox %d is %+v", n, b)
		}
	}
	for n, name := range m.Tasks {
		if name != fmt.Sprint("t", n) {
			t.Errorf("12.1: task %d is %s", n, name)
		}
	}
}

func TestKeysOfOneOwner(t *testing.T) {
	const head = "quantum 400\ntask a\ntask b\n"
	for n := range 7 {
		if m := expectOK(t, head+many(n, "key k%d a")+many(6, "key j%d b")); len(m.Keys) != n+6 || Text(m) != head+many(n, "key k%d a")+many(6, "key j%d b") {
			t.Errorf("12.1: %d keys of a: %s", n, show(m))
		}
	}
	var mixed strings.Builder
	for n := range 6 {
		fmt.Fprintf(&mixed, "key k%d a\nkey l%d b\n", n, n)
	}
	expectOK(t, head+mixed.String())
	expectWrong(t, head+mixed.String()+"key m a", 16, api.ErrFull)
	expectWrong(t, head+mixed.String()+"key m b", 16, api.ErrFull)
	expectOK(t, head+"task c\n"+mixed.String()+"key m c\nkey n c\nkey o c\nkey p c")
}

func TestText(t *testing.T) {
	for s, want := range map[string]string{
		service:                      "quantum 500\ntask ann\ntask bob\ntask _c9\nmailbox m ann bob 3 public\nmailbox n bob ann 8 secret\nmailbox o _c9 ann 1 secret\nkey k ann\nkey j _c9\n",
		"task   a  \n quantum 00400": "quantum 400\ntask a\n",
		"task a\nkey k a\ntask b\nmailbox m b a 007 public\nquantum 1000000\nkey j b\nmailbox l a b 1 secret": "quantum 1000000\ntask a\ntask b\nmailbox m b a 7 public\nmailbox l a b 1 secret\nkey k a\nkey j b\n",
		"task a\nkey k a\nquantum 4000":                        "quantum 4000\ntask a\nkey k a\n",
		"task b\ntask a\nmailbox m a b 2 public\nquantum 4000": "quantum 4000\ntask b\ntask a\nmailbox m a b 2 public\n",
		greatest(): greatest(),
		"quantum 400\ntask quantum\ntask mailbox\nkey quantum mailbox\n": "quantum 400\ntask quantum\ntask mailbox\nkey quantum mailbox\n",
	} {
		m := expectOK(t, s)
		if got := Text(m); got != want {
			t.Errorf("12.2: Text of %q: %q, not %q", s, got, want)
		}
		expectManifest(t, Text(m), m)
		if Text(expectOK(t, Text(m))) != want {
			t.Errorf("12.3: Text of Parse of Text of %q is another one", s)
		}
	}
}

// A nil list and an empty one are one.
func TestTextOfEmptyLists(t *testing.T) {
	for _, m := range []api.Manifest{{Quantum: 400, Tasks: []string{"a"}}, {Quantum: 400, Tasks: []string{"a"}, Boxes: []api.Box{}, Keys: []api.Slot{}}} {
		if s := Text(m); s != "quantum 400\ntask a\n" {
			t.Errorf("12.2: Text(%#v): %q", m, s)
		}
	}
}

// Of what Parse does not tell no sentence gives a text.
func TestTextOfWhatParseDoesNotTell(t *testing.T) {
	for n, turn := range []func(m *api.Manifest){
		func(m *api.Manifest) { *m = api.Manifest{} },
		func(m *api.Manifest) { m.Quantum = 0 },
		func(m *api.Manifest) { m.Quantum = 399 },
		func(m *api.Manifest) { m.Quantum = 1000001 },
		func(m *api.Manifest) { m.Quantum = -500 },
		func(m *api.Manifest) { m.Quantum = -1 << 63 },
		func(m *api.Manifest) { m.Quantum = 1<<63 - 1 },
		func(m *api.Manifest) { m.Tasks = nil },
		func(m *api.Manifest) { m.Tasks, m.Boxes, m.Keys = nil, nil, nil },
		func(m *api.Manifest) { m.Tasks[2] = "ann" },
		func(m *api.Manifest) { m.Tasks[2] = "" },
		func(m *api.Manifest) { m.Tasks[1] = "bob\ntask d" },
		func(m *api.Manifest) { m.Tasks[1] = " bob" },
		func(m *api.Manifest) { m.Tasks[1] = "bob\n#" },
		func(m *api.Manifest) { m.Tasks = append(m.Tasks, "in") },
		func(m *api.Manifest) { m.Tasks = append(m.Tasks, "d", "e", "f", "g", "h", "i") },
		func(m *api.Manifest) { m.Boxes[0].Name = "n" },
		func(m *api.Manifest) { m.Boxes[0].Name = "" },
		func(m *api.Manifest) { m.Boxes[0].From = "nobody" },
		func(m *api.Manifest) { m.Boxes[0].To = "ann" },
		func(m *api.Manifest) { m.Boxes[0].Cap = 0 },
		func(m *api.Manifest) { m.Boxes[0].Cap = 9 },
		func(m *api.Manifest) { m.Boxes[0].Cap = -1 },
		func(m *api.Manifest) { m.Boxes = append(make([]api.Box, 15), m.Boxes...) },
		func(m *api.Manifest) { m.Keys[0].Name = "j" },
		func(m *api.Manifest) { m.Keys[0].Name = "k " },
		func(m *api.Manifest) { m.Keys[0].Owner = "nobody" },
		func(m *api.Manifest) { m.Keys[1].Owner = "_c9\n" },
		func(m *api.Manifest) { m.Keys[1].Owner = "_c9\nkey l ann" },
		func(m *api.Manifest) {
			m.Keys = []api.Slot{{Name: "a", Owner: "ann"}, {Name: "b", Owner: "ann"}, {Name: "c", Owner: "ann"}, {Name: "d", Owner: "ann"}, {Name: "e", Owner: "ann"}, {Name: "f", Owner: "ann"}, {Name: "g", Owner: "ann"}}
		},
	} {
		m := serviceManifest()
		turn(&m)
		if s := Text(m); s != "" {
			t.Errorf("12.2: case %d: Text(%s): %q", n, show(m), s)
		}
	}
}

// expectPlaces asks for a name of each kind; -1: none.
func expectPlaces(t *testing.T, m api.Manifest, name string, task, box, key int) {
	t.Helper()
	for _, c := range []struct {
		call string
		of   func(api.Manifest, string) (int, bool)
		want int
	}{{"Task", Task, task}, {"Box", Box, box}, {"Key", Key, key}} {
		if at, is := c.of(m, name); is != (c.want >= 0) || at != max(c.want, 0) {
			t.Errorf("12.2: %s(%s, %q): %d, %v; not %d", c.call, show(m), name, at, is, c.want)
		}
	}
}

func TestPlaces(t *testing.T) {
	for _, s := range []string{service, greatest(), "quantum 400\ntask a", "quantum 400\ntask a\ntask b\nmailbox m a b 1 public\nkey k b"} {
		m := expectOK(t, s)
		for n, name := range m.Tasks {
			expectPlaces(t, m, name, n, -1, -1)
		}
		for n, b := range m.Boxes {
			if key, is := Key(m, b.Name); is {
				expectPlaces(t, m, b.Name, -1, n, key)
			} else {
				expectPlaces(t, m, b.Name, -1, n, -1)
			}
		}
		for n, k := range m.Keys {
			if box, is := Box(m, k.Name); is {
				expectPlaces(t, m, k.Name, -1, box, n)
			} else {
				expectPlaces(t, m, k.Name, -1, -1, n)
			}
		}
	}
}

func TestPlacesOfNoNames(t *testing.T) {
	for _, m := range []api.Manifest{{}, serviceManifest(), {Quantum: 400, Tasks: []string{"b"}}} {
		for _, name := range []string{"", " ", "x", "a", "an", "annn", "ANN", " ann", "ann ", "ann\n", "bo", "M", "mm", "K", "public", "secret", "task", "quantum", "3", "\xff"} {
			expectPlaces(t, m, name, -1, -1, -1)
		}
	}
}

// Whoever writes into what was told, or appends to it, changes nothing that is told later on, and nothing told ahead.
func TestWhatIsToldIsNewMemory(t *testing.T) {
	s := greatest()
	first, second := expectOK(t, s), expectOK(t, s)
	want := show(second)
	for range 40 {
		first.Tasks = append(first.Tasks, "more")
		first.Boxes = append(first.Boxes, api.Box{Name: "more"})
		first.Keys = append(first.Keys, api.Slot{Name: "more"})
	}
	for _, m := range []api.Manifest{first, expectOK(t, s)} {
		clear(m.Tasks[:cap(m.Tasks)])
		clear(m.Boxes[:cap(m.Boxes)])
		clear(m.Keys[:cap(m.Keys)])
	}
	if show(second) != want || show(expectOK(t, s)) != want {
		t.Error("R3: what was told shares memory")
	}
	if s != greatest() {
		t.Error("R3: the text is changed")
	}
}

// No name that is told lies where the text does: a manifest keeps none of it.
func TestTheTextIsNotKept(t *testing.T) {
	s := strings.Clone(service)
	m := expectOK(t, s)
	names := slices.Clone(m.Tasks)
	for _, b := range m.Boxes {
		names = append(names, b.Name, b.From, b.To)
	}
	for _, k := range m.Keys {
		names = append(names, k.Name, k.Owner)
	}
	from := uintptr(unsafe.Pointer(unsafe.StringData(s)))
	for n, name := range names {
		if at := uintptr(unsafe.Pointer(unsafe.StringData(name))); at >= from && at < from+uintptr(len(s)) {
			t.Errorf("R3: name %d, %s, lies in the text, at %d", n, name, at-from)
		}
	}
	if s != service {
		t.Error("R3: the text is changed")
	}
}

func TestManifestsAreNotChanged(t *testing.T) {
	m := serviceManifest()
	m.Tasks, m.Boxes, m.Keys = slices.Grow(m.Tasks, 9), slices.Grow(m.Boxes, 9), slices.Grow(m.Keys, 9)
	text := Text(m)
	expectPlaces(t, m, "k", -1, -1, 0)
	expectPlaces(t, m, "x", -1, -1, -1)
	if show(m) != show(serviceManifest()) || m.Tasks[:12][3] != "" || m.Boxes[:12][3] != (api.Box{}) || m.Keys[:11][2] != (api.Slot{}) {
		t.Error("R3: the manifest is changed:", show(m))
	}
	m.Tasks[0], m.Boxes[0].Name, m.Keys[0].Name = "other", "other", "other"
	if Text(serviceManifest()) != text {
		t.Error("R3: the manifest is kept")
	}
	expectPlaces(t, m, "other", 0, 0, 0)
}

// Other calls between two of the same change nothing.
func TestNothingIsKept(t *testing.T) {
	texts := []string{"", service, greatest(), "task a", "quantum 400\ntask a\ntask a", "x", "task a\nkey k a\nquantum 400", "key k a"}
	told := func(s string) string {
		m, line, e := Parse(s)
		box, is := Box(m, "m0")
		return fmt.Sprint(show(m), line, e, Text(m), box, is)
	}
	want := map[string]string{}
	for _, s := range texts {
		want[s] = told(s)
	}
	for range 3 {
		for _, s := range slices.Backward(texts) {
			if got := told(s); got != want[s] {
				t.Errorf("R1: of %q: %s, not %s", s, got, want[s])
			}
		}
	}
}

// Long texts end soon, whatever they are made of.
func TestLongTexts(t *testing.T) {
	const n = 1 << 20
	for _, c := range []struct {
		s    string
		line int
		e    api.Errno
	}{
		{strings.Repeat("\n", n), 0, api.ErrNone},
		{strings.Repeat(" ", n), 0, api.ErrNone},
		{strings.Repeat(" \n", n), 0, api.ErrNone},
		{strings.Repeat("#", n), 0, api.ErrNone},
		{strings.Repeat("# ", n), 0, api.ErrNone},
		{strings.Repeat("#\n", n), 0, api.ErrNone},
		{strings.Repeat("#\n", n) + "quantum", n + 1, api.ErrForm},
		{strings.Repeat("a ", n), 1, api.ErrForm},
		{"task " + strings.Repeat("a ", n), 1, api.ErrForm},
		{"task " + strings.Repeat("a", n) + "\n\ntask " + strings.Repeat("a", n), 3, api.ErrName},
		{"task " + strings.Repeat("a", n) + "\ntask " + strings.Repeat("a", n+1), 0, api.ErrNone},
		{"quantum " + strings.Repeat("0", n), 1, api.ErrForm},
		{"quantum " + strings.Repeat("9", n), 1, api.ErrForm},
		{strings.Repeat("quantum 400", n), 1, api.ErrForm},
		{strings.Repeat("\x00", n), 1, api.ErrForm},
	} {
		if _, line, e := Parse(c.s); line != c.line || e != c.e {
			t.Errorf("12.1: Parse of %d bytes %.20q..: line %d, %d", len(c.s), c.s, line, e)
		}
	}
}
