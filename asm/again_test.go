package asm

import (
	"fmt"
	"math"
	"math/rand"
	"slices"
	"testing"

	"footman/api"
	"footman/code"
	"footman/core"
)

// A second reading of chapter 8: far branches are found in rounds, as 8.2 tells it, each over all items anew, by
// addresses modulo 2^32; numbers are split by trying.
type reading struct {
	base  uint32
	items []api.Item
	far   []bool
}

// sizeAt is how many words the item n has.
func (a *reading) sizeAt(n int) int {
	x := a.items[n]
	switch {
	case x.Kind == api.ALabel:
		return 0
	case x.Kind == api.AAddr || x.Kind == api.ABranch && a.far[n]:
		return 2
	case x.Kind == api.ALoad && x.N > 2047 && x.N < 1<<32-2048:
		return 2
	case x.Kind == api.AWords:
		return len(x.Words)
	case x.Kind == api.ASpace:
		return int(x.N)
	}
	return 1
}

// addresses tells where each item stands, modulo 2^32, and the end.
func (a *reading) addresses() []uint32 {
	l := []uint32{a.base}
	for n := range a.items {
		l = append(l, l[n]+uint32(4*a.sizeAt(n)))
	}
	return l
}

func (a *reading) labelOf(name string) int {
	return slices.IndexFunc(a.items, func(x api.Item) bool { return x.Kind == api.ALabel && x.Name == name })
}

// round makes all branches far that are near and can not be so; false: there is none.
func (a *reading) round() bool {
	at := a.addresses()
	var l []int
	for n, x := range a.items {
		if x.Kind != api.ABranch || a.far[n] {
			continue
		}
		if far := int32(at[a.labelOf(x.Name)] - at[n]); far < -4096 || far > 4094 {
			l = append(l, n)
		}
	}
	for _, n := range l {
		a.far[n] = true
	}
	return len(l) > 0
}

func within(r int) bool {
	return 0 <= r && r <= 31
}

func (a *reading) badArg(x api.Item) bool {
	switch x.Kind {
	case api.ALabel, api.AWords, api.ASpace:
		return false
	case api.AIns:
		return !code.May(x.Ins)
	case api.ABranch:
		ops := []string{"beq", "bne", "blt", "bge", "bltu", "bgeu"}
		return !slices.Contains(ops, x.Ins.Op) || x.Ins.Rd != 0 || !within(x.Ins.R1) || !within(x.Ins.R2) || x.Ins.Imm != 0
	case api.AJump, api.ALoad, api.AAddr:
		return !within(x.Ins.Rd)
	}
	return true
}

func (a *reading) badName(n int) bool {
	x := a.items[n]
	switch x.Kind {
	case api.ALabel:
		return x.Name == "" || a.labelOf(x.Name) < n
	case api.ABranch, api.AJump, api.AAddr:
		return a.labelOf(x.Name) < 0
	}
	return false
}

// fullAt is the first item with which there are too many words; -1: none.
func (a *reading) fullAt() int {
	for n, sum := 0, 0; n < len(a.items); n++ {
		if sum += a.sizeAt(n); sum > api.MaxWords {
			return n
		}
	}
	return -1
}

func (a *reading) error() (int, api.Errno) {
	if a.base&3 != 0 {
		return 0, api.ErrAlign
	}
	full := a.fullAt()
	for n, x := range a.items {
		if a.badArg(x) {
			return n, api.ErrArg
		}
		if a.badName(n) {
			return n, api.ErrName
		}
		if n == full {
			return n, api.ErrFull
		}
	}
	for a.round() {
	}
	if n := a.fullAt(); n >= 0 {
		return n, api.ErrFull
	}
	return 0, api.OK
}

// pairOf tries all of addi's numbers until the rest is one of lui's.
func pairOf(rd int, n uint32) []api.Ins {
	for low := int32(-2048); low < 2048; low++ {
		if rest := n - uint32(low); rest%4096 == 0 {
			return []api.Ins{one("lui", rd, int32(rest/4096)), two("addi", rd, rd, low)}
		}
	}
	return nil
}

func (a *reading) instructions(n int, at []uint32) []api.Ins {
	x := a.items[n]
	to := uint32(0)
	if k := a.labelOf(x.Name); k >= 0 {
		to = at[k]
	}
	far := int32(to - at[n])
	switch x.Kind {
	case api.AIns:
		return []api.Ins{x.Ins}
	case api.AJump:
		return []api.Ins{one("jal", x.Ins.Rd, far)}
	case api.AAddr:
		return pairOf(x.Ins.Rd, to)
	case api.ALoad:
		if a.sizeAt(n) == 1 {
			return []api.Ins{two("addi", x.Ins.Rd, 0, int32(x.N))}
		}
		return pairOf(x.Ins.Rd, x.N)
	}
	if !a.far[n] {
		return []api.Ins{pair(x.Ins.Op, x.Ins.R1, x.Ins.R2, far)}
	}
	about := map[string]string{"beq": "bne", "bne": "beq", "blt": "bge", "bge": "blt", "bltu": "bgeu", "bgeu": "bltu"}
	return []api.Ins{pair(about[x.Ins.Op], x.Ins.R1, x.Ins.R2, 8), one("jal", 0, far-4)}
}

func (a *reading) assemble() (l []uint32, syms []api.Sym, at int, e api.Errno) {
	if at, e = a.error(); e != api.OK {
		return nil, nil, at, e
	}
	all := a.addresses()
	for n, x := range a.items {
		switch x.Kind {
		case api.ALabel:
			syms = append(syms, api.Sym{Name: x.Name, At: all[n]})
		case api.AWords, api.ASpace:
			l = append(append(l, x.Words...), make([]uint32, a.sizeAt(n)-len(x.Words))...)
		default:
			for _, i := range a.instructions(n, all) {
				y, _ := code.Put(i)
				l = append(l, y)
			}
		}
	}
	return l, syms, 0, api.OK
}

func read(base uint32, l []api.Item) *reading {
	return &reading{base, l, make([]bool, len(l))}
}

// chance makes items: labels l0, l1, .. each once, and what leads to them.
type chance struct {
	*rand.Rand
	labels int
	space  int // words of each space, at most
}

func (c chance) name() string {
	return fmt.Sprint("l", c.Intn(c.labels))
}

func (c chance) number() uint32 {
	edges := []uint32{0, 1, 2047, 2048, 4095, 4096, 1<<32 - 2049, 1<<32 - 2048, 1<<32 - 1, 1 << 31}
	if c.Intn(2) == 0 {
		return edges[c.Intn(len(edges))]
	}
	return c.Uint32() >> c.Intn(32)
}

func (c chance) item() api.Item {
	switch c.Intn(12) {
	case 0:
		return plain(two("addi", c.Intn(32), c.Intn(32), int32(c.Intn(4096)-2048)))
	case 1:
		return jump(c.Intn(32), c.name())
	case 2:
		return load(c.Intn(32), c.number())
	case 3:
		return addr(c.Intn(32), c.name())
	case 4:
		return words(make([]uint32, c.Intn(4))...)
	case 5, 6:
		return space(uint32(c.Intn(c.space + 1)))
	}
	return branch(turns[c.Intn(len(turns))].op, c.Intn(32), c.Intn(32), c.name())
}

func (c chance) program(n int) []api.Item {
	var l []api.Item
	for range n {
		l = append(l, c.item())
	}
	for k := range c.labels {
		l = slices.Insert(l, c.Intn(len(l)+1), label(fmt.Sprint("l", k)))
	}
	return l
}

func (c chance) register() int {
	return []int{-1, 0, 31, 32, math.MinInt, math.MaxInt}[c.Intn(6)]
}

// spoil makes an item wrong, or at least another one.
func (c chance) spoil(x *api.Item) {
	switch c.Intn(8) {
	case 0:
		x.Kind = c.Intn(12) - 1
	case 1:
		x.Name = ""
	case 2:
		x.Name = fmt.Sprint("l", c.Intn(c.labels+2))
	case 3:
		x.Ins.Rd = c.register()
	case 4:
		x.Ins.R1 = c.register()
	case 5:
		x.Ins.Imm = int32(c.Intn(3)) * 2
	case 6:
		x.Ins.Op = []string{"", "add", "bne", "jal", "bgt"}[c.Intn(5)]
	case 7:
		x.N = []uint32{0, api.MaxWords - 500, api.MaxWords, math.MaxUint32}[c.Intn(4)]
	}
}

func (c chance) base() uint32 {
	return []uint32{0, 4, 0x1000, 0x7ffffff0, 0xfffffff0, c.Uint32() &^ 3}[c.Intn(6)]
}

// agree holds Assemble against the second reading.
func agree(t *testing.T, base uint32, l []api.Item) {
	t.Helper()
	got, syms, at, e := Assemble(base, l)
	want, wantSyms, wantAt, wantE := read(base, l).assemble()
	if at != wantAt || e != wantE || !slices.Equal(got, want) || !slices.Equal(syms, wantSyms) {
		t.Fatalf("8.3: Assemble(%#x, %s): %d words, %d syms, at %d, error %d, not %d words, %d syms, at %d, error %d",
			base, brief(l), len(got), len(syms), at, e, len(want), len(wantSyms), wantAt, wantE)
	}
}

func TestSecondReading(t *testing.T) {
	r := rand.New(rand.NewSource(8))
	for _, c := range []chance{{r, 3, 10}, {r, 8, 60}, {r, 8, 200}, {r, 20, 1100}} {
		for n := range 150 {
			agree(t, c.base(), c.program(n))
		}
	}
}

// Branches in long rows, whose labels lie about as far away as a near one reaches: many become far because of others.
func TestSecondReadingOfRows(t *testing.T) {
	r := rand.New(rand.NewSource(88))
	for range 60 {
		var l []api.Item
		for k := range 30 + r.Intn(60) {
			if r.Intn(3) > 0 {
				l = append(l, space(uint32(r.Intn(40))))
			}
			l = append(l, label(fmt.Sprint("l", k)), branch("blt", 1, 2, fmt.Sprint("l", k+20+r.Intn(20))), branch("beq", 1, 2, fmt.Sprint("l", k-20-r.Intn(20))))
		}
		for n := range l {
			// A label that there is not is one at either end.
			if l[n].Kind == api.ABranch && read(0, l).labelOf(l[n].Name) < 0 {
				l[n].Name = []string{"first", "last"}[r.Intn(2)]
			}
		}
		l = append(append(items(label("first")), l...), label("last"))
		agree(t, 0, l)
	}
}

func TestSecondReadingOfWrongItems(t *testing.T) {
	r := rand.New(rand.NewSource(888))
	for range 2000 {
		c := chance{r, 4, []int{10, 300, 4000}[r.Intn(3)]}
		l := c.program(1 + r.Intn(40))
		for range r.Intn(4) {
			c.spoil(&l[r.Intn(len(l))])
		}
		base := c.base()
		if r.Intn(20) == 0 {
			base += uint32(r.Intn(4))
		}
		agree(t, base, l)
	}
}

// Items that fill memory up to its last words, so that it hangs on far ones whether there is room.
func TestSecondReadingOfFullMemory(t *testing.T) {
	r := rand.New(rand.NewSource(8888))
	for range 300 {
		c := chance{r, 6, 1500}
		l := c.program(30)
		sum := 0
		for n := range l {
			sum += read(0, l).sizeAt(n)
		}
		room := api.MaxWords - sum - r.Intn(30)
		l = slices.Insert(l, r.Intn(len(l)+1), space(uint32(room)))
		agree(t, c.base(), l)
	}
}

// A machine runs each branch, with registers for which it leads on and for which it does not.
func TestBranchLeadsToItsLabel(t *testing.T) {
	r := rand.New(rand.NewSource(84))
	for range 40 {
		c := chance{r, 12, 700}
		l := c.program(60)
		a := read(0, l)
		got, syms := done(t, 0, l)
		for a.round() {
		}
		machine, e := core.New(append(got, 0), nil)
		if e != api.OK {
			t.Fatal("6.1: New", e)
		}
		at := a.addresses()
		for n, x := range l {
			if x.Kind == api.ABranch {
				for range 8 {
					lead(t, r, machine, x, at[n], at[n+1], syms)
				}
			}
		}
	}
}

// lead lets a machine do one branch from at on, up to behind.
func lead(t *testing.T, r *rand.Rand, m *core.Core, x api.Item, at, behind uint32, syms []api.Sym) {
	t.Helper()
	values := []uint32{0, 1, 1<<31 - 1, 1 << 31, 1<<32 - 1}
	regs := api.Regs{PC: at}
	for k := range regs.X {
		regs.X[k] = values[r.Intn(len(values))]
	}
	m.Put(regs)
	regs = m.Regs()
	want := behind
	if leads(x.Ins.Op, regs.X[x.Ins.R1], regs.X[x.Ins.R2]) {
		want = syms[slices.IndexFunc(syms, func(s api.Sym) bool { return s.Name == x.Name })].At
	}
	for n := 0; n == 0 || n < 2 && behind-at == 8 && m.Regs().PC == at+4; n++ {
		m.Step()
	}
	if now := m.Regs(); now.PC != want || now.X != regs.X {
		t.Errorf("8.4: %+v at %#x, up to %#x: leads to %#x, not %#x", x, at, behind, now.PC, want)
	}
}

func leads(op string, a, b uint32) bool {
	switch op {
	case "beq":
		return a == b
	case "bne":
		return a != b
	case "blt":
		return int32(a) < int32(b)
	case "bge":
		return int32(a) >= int32(b)
	case "bltu":
		return a < b
	}
	return a >= b
}

// A machine runs numbers and addresses that are loaded.
func TestLoadsOnAMachine(t *testing.T) {
	r := rand.New(rand.NewSource(81))
	c := chance{r, 12, 700}
	for range 40 {
		var l []api.Item
		for k := range 12 {
			l = append(l, load(1+k, c.number()), addr(14+k, fmt.Sprint("l", k)))
		}
		steps := len(l)
		for k := range 12 {
			l = append(l, label(fmt.Sprint("l", k)), space(uint32(r.Intn(3000))))
		}
		got, syms := done(t, 0, l)
		m, e := core.New(append(got, 0), nil)
		if e != api.OK {
			t.Fatal("6.1: New", e)
		}
		for m.Regs().PC < syms[0].At {
			m.Step()
		}
		for k, x := range l[:steps] {
			want := x.N
			if x.Kind == api.AAddr {
				want = syms[k/2].At
			}
			if now := m.Regs().X[x.Ins.Rd]; now != want {
				t.Errorf("8.1: %+v: %#x, not %#x", x, now, want)
			}
		}
	}
}

// falling is a row of n words, all branches but each 512th one. Each branch has 511 others between it and its label, and is
// far only if all these are; those at the end, whose labels would stand behind the row, are far by themselves.
func falling(n int) []api.Item {
	const reach, every = 513, 512
	var l []api.Item
	for k := range n {
		l = append(l, label(fmt.Sprint(k)))
		switch {
		case k%every == every-1:
			l = append(l, space(1))
		case k+reach < n:
			l = append(l, branch("bltu", 1, 2, fmt.Sprint(k+reach)))
		default:
			l = append(l, branch("bltu", 1, 2, "end"))
		}
	}
	return append(l, space(1100), label("end"))
}

// One branch after the other becomes far, so often that going over all of them each time would take very long.
func TestLongRowOfBranches(t *testing.T) {
	agree(t, 0, falling(1200))
	const n = 32000
	got, syms := done(t, 0, falling(n))
	if want := 2*(n-n/512) + n/512 + 1100; len(got) != want || len(syms) != n+1 {
		t.Fatalf("8.2: %d words, %d syms, not %d, %d: not all are far", len(got), len(syms), want, n+1)
	}
	at := 0
	for k := range n {
		if syms[k].At != uint32(4*at) {
			t.Fatalf("8.3: label %d at %#x, not %#x", k, syms[k].At, 4*at)
		}
		at += 2
		if k%512 == 511 {
			at--
		}
	}
	// With each as one word there is room for them, as two there is not.
	most := falling(64000)
	wrong(t, 0, most, fullOfFar(most), api.ErrFull)
}

// fullOfFar is the place of the first item with which there are too many words if each branch has two.
func fullOfFar(l []api.Item) int {
	a := read(0, l)
	for n := range l {
		a.far[n] = true
	}
	return a.fullAt()
}
