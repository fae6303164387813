package manifest

import (
	"strconv"
	"strings"

	"footman/api"
	"footman/lex"
)

const (
	leastQuantum = 400
	mostQuantum  = 1000000
	mostCap      = 8 // of a mailbox
	mostKeys     = 6 // of one owner
	mostDigits   = 9
	mostParts    = 6 // a mailbox's line has as many
)

// What a name is of.
type kind int

const (
	ofTask kind = iota + 1
	ofBox
	ofKey
	ofOwner // of a key
)

// A thing is what has a name of a kind.
type thing struct {
	kind kind
	name string
}

// Known tells how often a name of a kind stood already.
type known map[thing]int

func (k known) has(of kind, name string) bool {
	return k[thing{of, name}] > 0
}

func (k known) add(of kind, name string) {
	k[thing{of, name}]++
}

// A reader goes through lines, and gathers what they say.
type reader struct {
	m     api.Manifest
	known known
}

// hasQuantum leans on this: no quantum is 0.
func (r *reader) hasQuantum() bool {
	return r.m.Quantum != 0
}

func (r *reader) line(s string) api.Errno {
	l := parts(s)
	if len(l) == 0 || l[0][0] == '#' {
		return api.OK
	}
	switch first, n := l[0], len(l); {
	case first == "quantum" && n == 2:
		return r.quantum(l[1])
	case first == "task" && n == 2:
		return r.task(l[1])
	case first == "mailbox" && n == mostParts:
		return r.mailbox(l[1], l[2], l[3], l[4], l[5])
	case first == "key" && n == 3:
		return r.key(l[1], l[2])
	}
	return api.ErrForm
}

func (r *reader) quantum(number string) api.Errno {
	n, ok := count(number)
	switch {
	case !ok:
		return api.ErrForm
	case n < leastQuantum || n > mostQuantum:
		return api.ErrArg
	case r.hasQuantum():
		return api.ErrName
	}
	r.m.Quantum = n
	return api.OK
}

func (r *reader) task(name string) api.Errno {
	switch {
	case !areNames(name):
		return api.ErrForm
	case r.known.has(ofTask, name):
		return api.ErrName
	case len(r.m.Tasks) == api.MaxTasks:
		return api.ErrFull
	}
	r.known.add(ofTask, name)
	r.m.Tasks = append(r.m.Tasks, strings.Clone(name))
	return api.OK
}

func (r *reader) mailbox(name, from, to, number, label string) api.Errno {
	n, ok := count(number)
	switch {
	case !areNames(name, from, to) || !ok || !isLabel(label):
		return api.ErrForm
	case n < 1 || n > mostCap:
		return api.ErrArg
	case r.known.has(ofBox, name) || !r.areTasks(from, to) || from == to:
		return api.ErrName
	case len(r.m.Boxes) == api.MaxBoxes:
		return api.ErrFull
	}
	r.known.add(ofBox, name)
	r.m.Boxes = append(r.m.Boxes, api.Box{
		Name: strings.Clone(name), From: strings.Clone(from), To: strings.Clone(to), Cap: n, Secret: label == "secret",
	})
	return api.OK
}

func (r *reader) key(name, owner string) api.Errno {
	switch {
	case !areNames(name, owner):
		return api.ErrForm
	case r.known.has(ofKey, name) || !r.areTasks(owner):
		return api.ErrName
	case len(r.m.Keys) == api.MaxKeys || r.known[thing{ofOwner, owner}] == mostKeys:
		return api.ErrFull
	}
	r.known.add(ofKey, name)
	r.known.add(ofOwner, owner)
	r.m.Keys = append(r.m.Keys, api.Slot{Name: strings.Clone(name), Owner: strings.Clone(owner)})
	return api.OK
}

// areTasks tells whether each of the names is that of a task ahead.
func (r *reader) areTasks(names ...string) bool {
	for _, name := range names {
		if !r.known.has(ofTask, name) {
			return false
		}
	}
	return true
}

func areNames(l ...string) bool {
	for _, s := range l {
		if !lex.IsName(s) {
			return false
		}
	}
	return true
}

func isLabel(s string) bool {
	return s == "public" || s == "secret"
}

// count asks for digits alone: ParseUint takes neither a sign nor `_` where it is told the base.
func count(s string) (int, bool) {
	if len(s) > mostDigits {
		return 0, false
	}
	n, err := strconv.ParseUint(s, 10, 32)
	return int(n), err == nil
}

// parts tells the parts of a line, up to one more than any line may have: a long one is not all laid down.
func parts(line string) []string {
	var l []string
	for line != "" && len(l) <= mostParts {
		part, rest, _ := strings.Cut(line, " ")
		if part != "" {
			l = append(l, part)
		}
		line = rest
	}
	return l
}
