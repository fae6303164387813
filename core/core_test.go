package core

import (
	"math"
	"slices"
	"testing"

	"footman/api"
	"footman/code"
	"footman/csr"
)

const ones = 0xffffffff

func three(op string, rd, r1, r2 int) api.Ins {
	return api.Ins{Op: op, Rd: rd, R1: r1, R2: r2}
}

func two(op string, rd, r1 int, imm int32) api.Ins {
	return api.Ins{Op: op, Rd: rd, R1: r1, Imm: imm}
}

// A store or a branch.
func pair(op string, r1, r2 int, imm int32) api.Ins {
	return api.Ins{Op: op, R1: r1, R2: r2, Imm: imm}
}

func one(op string, rd int, imm int32) api.Ins {
	return api.Ins{Op: op, Rd: rd, Imm: imm}
}

func alone(op string) api.Ins {
	return api.Ins{Op: op}
}

func put(t *testing.T, i api.Ins) uint32 {
	t.Helper()
	x, e := code.Put(i)
	if e != api.OK {
		t.Fatalf("2.2: Put of %+v: %v", i, e)
	}
	return x
}

func words(t *testing.T, l ...api.Ins) []uint32 {
	t.Helper()
	var out []uint32
	for _, i := range l {
		out = append(out, put(t, i))
	}
	return out
}

func made(t *testing.T, l []uint32, late ...int) *Core {
	t.Helper()
	c, e := New(l, late)
	if c == nil || e != api.OK {
		t.Fatalf("6.1: New: %v, %v", c, e)
	}
	return c
}

// Registers that are all different, none of them 0, of no use to the timer.
func some() api.Regs {
	r := api.Regs{
		PC: 0x40, Status: 0x1888, Tvec: 0x104, Scratch: 0x5a5a5a5a, Epc: 0x44, Cause: 0x80000007, Tval: 0xdeadbeef,
	}
	for i := range r.X {
		r.X[i] = 0x1000 + uint32(i)
	}
	for i := range r.Guard {
		r.Guard[i] = 0x2000 + uint32(i)
	}
	r.X[0] = 0
	return r
}

// One word alone in a memory of 64 words, at PC.
func at(t *testing.T, r api.Regs, x uint32) *Core {
	t.Helper()
	l := make([]uint32, 64)
	if r.PC/4 < 64 {
		l[r.PC/4] = x
	}
	c := made(t, l)
	c.Put(r)
	return c
}

// step does the instruction i of a core with the registers r, and holds all that there is against want and cost.
func step(t *testing.T, r api.Regs, i api.Ins, want api.Regs, cost int) *Core {
	t.Helper()
	c := at(t, r, put(t, i))
	if !c.Step() || c.Regs() != want || c.Time() != cost {
		t.Errorf("6.2: %+v: %+v, not %+v; time %d, not %d", i, c.Regs(), want, c.Time(), cost)
	}
	if k := c.Leak(); k.PC != r.PC || k.Time != 0 {
		t.Errorf("6.2: Leak of %+v: %+v", i, k)
	}
	return c
}

// A fault, read once more from chapter 5.
func trapped(r api.Regs, cause, val uint32) api.Regs {
	was := r.Status & 8
	r.Status &^= 0x1888
	r.Status |= was << 4
	if !r.User {
		r.Status |= 0x1800
	}
	r.Epc, r.Cause, r.Tval, r.PC, r.User = r.PC, cause, val, r.Tvec, false
	return r
}

func run(t *testing.T, c *Core, n int) {
	t.Helper()
	for i := range n {
		if !c.Step() {
			t.Fatalf("6.2: Step %d: it has stopped", i)
		}
	}
}

func TestExample(t *testing.T) {
	c := made(t, []uint32{15})
	if !c.Step() || c.Time() != 1 || c.Regs() != (api.Regs{PC: 4}) {
		t.Error("6: a Step of cost 1", c.Time(), c.Regs())
	}
}

func TestNew(t *testing.T) {
	for _, l := range [][]uint32{nil, {}, make([]uint32, api.MaxWords+1), make([]uint32, 2*api.MaxWords)} {
		for _, late := range [][]int{nil, {1}} {
			if c, e := New(l, late); c != nil || e != api.ErrArg {
				t.Errorf("6.1: New of %d words: %v, %v", len(l), c, e)
			}
		}
	}
	for _, n := range []int{1, 2, api.MaxWords - 1, api.MaxWords} {
		c := made(t, make([]uint32, n))
		if c.Regs() != (api.Regs{}) || c.Time() != 0 || len(c.Events()) != 0 || c.Leak() != (api.Leak{}) {
			t.Error("6.1: at first", n, c.Regs(), c.Time(), c.Events(), c.Leak())
		}
		if x, e := c.Word(uint32(4*n - 4)); x != 0 || e != api.OK {
			t.Error("6.1: the last word", n, x, e)
		}
	}
}

func TestNewHasNoTimer(t *testing.T) {
	c := made(t, words(t, alone("wfi"), two("csrrs", 1, 0, api.CIp)), 100)
	c.Put(api.Regs{Ie: 0x80, Status: 8})
	run(t, c, 2)
	if r := c.Regs(); r.X[1] != 0 || r.PC != 8 || c.Time() != 2 {
		t.Error("6.1: without a timer", r, c.Time())
	}
}

func TestPutAndRegs(t *testing.T) {
	c := made(t, []uint32{15})
	for _, r := range []api.Regs{{}, some(), {PC: ones, User: true, Status: ones, Ie: ones, Tvec: ones, Epc: ones}} {
		want := r
		r.X[0] = 77
		c.Put(r)
		if c.Regs() != want || r.X[0] != 77 {
			t.Errorf("6.1: Put: %+v, not %+v", c.Regs(), want)
		}
		if c.Time() != 0 || c.Leak() != (api.Leak{}) {
			t.Error("6.1: Put is no step", c.Time(), c.Leak())
		}
	}
	r := c.Regs()
	r.X[3] = 9
	if c.Regs().X[3] == 9 {
		t.Error("R3: what is told is kept")
	}
}

func TestWord(t *testing.T) {
	l := []uint32{0x01020304, 7, ones, 0x80000000}
	c := made(t, l)
	c.Put(api.Regs{User: true})
	for i, x := range l {
		if y, e := c.Word(uint32(4 * i)); y != x || e != api.OK {
			t.Errorf("6.1: Word of %d: %#x, %v", i, y, e)
		}
	}
	for _, at := range []uint32{1, 2, 3, 5, 15, 17, 18, ones, ones - 1, ones - 2, api.DSay + 1} {
		if x, e := c.Word(at); x != 0 || e != api.ErrAlign {
			t.Errorf("6.1: Word at no multiple, %#x: %#x, %v", at, x, e)
		}
	}
	for _, at := range []uint32{16, 20, 1 << 18, 1 << 31, ones - 3, api.DCmp, api.DStop} {
		if x, e := c.Word(at); x != 0 || e != api.ErrNone {
			t.Errorf("6.1: Word behind the end, %#x: %#x, %v", at, x, e)
		}
	}
	if c.Time() != 0 || c.Leak() != (api.Leak{}) {
		t.Error("6.1: Word is no step", c.Time(), c.Leak())
	}
}

func TestOperationsOfTwoRegisters(t *testing.T) {
	for _, c := range []struct {
		op         string
		a, b, want uint32
		cost       int
	}{
		{"add", 7, 5, 12, 1}, {"add", ones, 2, 1, 1},
		{"sub", 7, 5, 2, 1}, {"sub", 5, 7, ones - 1, 1},
		{"sll", 3, 4, 48, 1}, {"sll", 3, 33, 6, 1},
		{"slt", ones, 1, 1, 1}, {"slt", 1, ones, 0, 1}, {"slt", 4, 4, 0, 1},
		{"sltu", ones, 1, 0, 1}, {"sltu", 1, ones, 1, 1},
		{"xor", 12, 10, 6, 1}, {"srl", 0x80000000, 31, 1, 1}, {"sra", 0x80000000, 31, ones, 1},
		{"or", 12, 10, 14, 1}, {"and", 12, 10, 8, 1},
		{"mul", 7, ones, ones - 6, 3}, {"mulh", ones, ones, 0, 3}, {"mulh", 0x80000000, 2, ones, 3},
		{"mulhsu", ones, ones, ones, 3}, {"mulhu", ones, ones, ones - 1, 3},
		{"div", ones - 6, 2, ones - 2, 20}, {"div", 5, 0, ones, 20}, {"div", 0x80000000, ones, 0x80000000, 20},
		{"divu", ones - 6, 2, 0x7ffffffc, 20}, {"divu", 5, 0, ones, 20},
		{"rem", ones - 6, 2, ones, 20}, {"rem", 5, 0, 5, 20}, {"rem", 0x80000000, ones, 0, 20},
		{"remu", ones - 6, 3, 0, 20}, {"remu", 5, 0, 5, 20},
	} {
		for _, user := range []bool{false, true} {
			r := some()
			r.User, r.Guard, r.X[6], r.X[7] = user, [16]uint32{0, 0x101}, c.a, c.b
			want := r
			want.PC, want.X[5] = 0x44, c.want
			step(t, r, three(c.op, 5, 6, 7), want, c.cost)
			// the place of an operand is as good as any other
			want = r
			want.PC, want.X[6] = 0x44, c.want
			step(t, r, three(c.op, 6, 6, 7), want, c.cost)
			want = r
			want.PC, want.X[7] = 0x44, c.want
			step(t, r, three(c.op, 7, 6, 7), want, c.cost)
			want = r
			want.PC = 0x44
			step(t, r, three(c.op, 0, 6, 7), want, c.cost)
		}
	}
	r := some()
	want := r
	want.PC, want.X[31] = 0x44, 0x101e
	step(t, r, three("add", 31, 30, 0), want, 1)
	step(t, r, three("add", 31, 0, 30), want, 1)
}

func TestOperationsWithImm(t *testing.T) {
	for _, c := range []struct {
		op   string
		a    uint32
		imm  int32
		want uint32
	}{
		{"addi", 7, 5, 12}, {"addi", 7, -8, ones}, {"addi", 0, 2047, 2047}, {"addi", 0, -2048, ones - 2047},
		{"slti", ones, 0, 1}, {"slti", 1, -1, 0}, {"slti", 3, 3, 0}, {"slti", 2, 3, 1},
		{"sltiu", 1, -1, 1}, {"sltiu", ones, -1, 0}, {"sltiu", ones, 5, 0}, {"sltiu", 0, 1, 1},
		{"xori", 5, -1, ones - 5}, {"xori", 12, 10, 6},
		{"ori", 12, 10, 14}, {"ori", 1, -2, ones},
		{"andi", 12, 10, 8}, {"andi", ones, -4, ones - 3},
		{"slli", 1, 31, 0x80000000}, {"slli", 9, 0, 9},
		{"srli", 0x80000000, 31, 1}, {"srli", 0x80000000, 4, 0x08000000},
		{"srai", 0x80000000, 31, ones}, {"srai", 0x80000000, 4, 0xf8000000}, {"srai", 0x40000000, 30, 1},
	} {
		r := some()
		r.X[6] = c.a
		want := r
		want.PC, want.X[5] = 0x44, c.want
		step(t, r, two(c.op, 5, 6, c.imm), want, 1)
		want = r
		want.PC, want.X[6] = 0x44, c.want
		step(t, r, two(c.op, 6, 6, c.imm), want, 1)
		want = r
		want.PC = 0x44
		step(t, r, two(c.op, 0, 6, c.imm), want, 1)
	}
}

func TestUpper(t *testing.T) {
	for _, c := range []struct {
		imm        int32
		lui, auipc uint32
	}{{0, 0, 0x40}, {1, 0x1000, 0x1040}, {0x80000, 0x80000000, 0x80000040}, {0xfffff, 0xfffff000, 0xfffff040}} {
		r := some()
		lui, auipc, none := r, r, r
		lui.PC, lui.X[5] = 0x44, c.lui
		auipc.PC, auipc.X[5] = 0x44, c.auipc
		none.PC = 0x44
		step(t, r, one("lui", 5, c.imm), lui, 1)
		step(t, r, one("auipc", 5, c.imm), auipc, 1)
		step(t, r, one("lui", 0, c.imm), none, 1)
		step(t, r, one("auipc", 0, c.imm), none, 1)
	}
}

// A memory of four words: the instruction, and words of which each byte is different.
func memory(t *testing.T, i api.Ins) []uint32 {
	return append(words(t, i), 0x83828180, 0x04030201, 0xf7f6f5f4)
}

func TestLoads(t *testing.T) {
	for _, c := range []struct {
		op   string
		x    uint32
		imm  int32
		at   uint32
		want uint32
	}{
		{"lb", 0, 4, 4, 0xffffff80}, {"lb", 4, 3, 7, 0xffffff83}, {"lb", 8, 1, 9, 2}, {"lb", 0, 15, 15, 0xfffffff7},
		{"lbu", 0, 4, 4, 0x80}, {"lbu", 4, 3, 7, 0x83}, {"lbu", 8, 1, 9, 2}, {"lbu", 0, 15, 15, 0xf7},
		{"lh", 0, 4, 4, 0xffff8180}, {"lh", 6, 0, 6, 0xffff8382}, {"lh", 10, 0, 10, 0x0403}, {"lh", 16, -2, 14, 0xfffff7f6},
		{"lhu", 0, 4, 4, 0x8180}, {"lhu", 6, 0, 6, 0x8382}, {"lhu", 10, 0, 10, 0x0403}, {"lhu", 16, -2, 14, 0xf7f6},
		{"lw", 0, 4, 4, 0x83828180}, {"lw", 0, 8, 8, 0x04030201}, {"lw", 12, 0, 12, 0xf7f6f5f4}, {"lw", 2060, -2048, 12, 0xf7f6f5f4},
		{"lw", ones - 3, 12, 8, 0x04030201}, {"lb", ones, 10, 9, 2},
	} {
		for _, user := range []bool{false, true} {
			for _, rd := range []int{0, 5, 6} {
				i := two(c.op, rd, 6, c.imm)
				m := made(t, memory(t, i))
				r := some()
				r.PC, r.User, r.Guard, r.X[6] = 0, user, [16]uint32{0, 0x11}, c.x
				want := r
				want.PC = 4
				if rd != 0 {
					want.X[rd] = c.want
				}
				m.Put(r)
				if !m.Step() || m.Regs() != want || m.Time() != 2 {
					t.Errorf("6.2: %+v at %#x: %+v, not %+v, %d", i, c.at, m.Regs(), want, m.Time())
				}
				if k := m.Leak(); k != (api.Leak{At: c.at}) {
					t.Errorf("6.2: Leak of %+v: %+v", i, k)
				}
			}
		}
	}
}

func TestStores(t *testing.T) {
	const x = 0xa9b8c7d6
	for _, c := range []struct {
		op   string
		x    uint32
		imm  int32
		at   uint32
		want [3]uint32
	}{
		{"sb", 0, 4, 4, [3]uint32{0x838281d6, 0x04030201, 0xf7f6f5f4}}, {"sb", 4, 3, 7, [3]uint32{0xd6828180, 0x04030201, 0xf7f6f5f4}},
		{"sb", 10, -1, 9, [3]uint32{0x83828180, 0x0403d601, 0xf7f6f5f4}}, {"sb", 15, 0, 15, [3]uint32{0x83828180, 0x04030201, 0xd6f6f5f4}},
		{"sh", 0, 4, 4, [3]uint32{0x8382c7d6, 0x04030201, 0xf7f6f5f4}}, {"sh", 12, -2, 10, [3]uint32{0x83828180, 0xc7d60201, 0xf7f6f5f4}},
		{"sh", 0, 14, 14, [3]uint32{0x83828180, 0x04030201, 0xc7d6f5f4}},
		{"sw", 0, 4, 4, [3]uint32{x, 0x04030201, 0xf7f6f5f4}}, {"sw", 8, 0, 8, [3]uint32{0x83828180, x, 0xf7f6f5f4}},
		{"sw", 16, -4, 12, [3]uint32{0x83828180, 0x04030201, x}}, {"sw", ones - 3, 12, 8, [3]uint32{0x83828180, x, 0xf7f6f5f4}},
	} {
		for _, user := range []bool{false, true} {
			i := pair(c.op, 6, 7, c.imm)
			m := made(t, memory(t, i))
			r := some()
			r.PC, r.User, r.X[6], r.X[7] = 0, user, c.x, x
			r.Guard = [16]uint32{0, 0x11, 4, 0x12}
			want := r
			want.PC = 4
			m.Put(r)
			if !m.Step() || m.Regs() != want || m.Time() != 2 || m.Leak() != (api.Leak{At: c.at}) {
				t.Errorf("6.2: %+v: %+v, not %+v, %d, %+v", i, m.Regs(), want, m.Time(), m.Leak())
			}
			if got := all(t, m, 4)[1:]; !slices.Equal(got, c.want[:]) {
				t.Errorf("6.2: %+v: %x, not %x", i, got, c.want)
			}
		}
	}
	// X 0 stores 0
	m := made(t, memory(t, pair("sw", 0, 0, 8)))
	run(t, m, 1)
	if got := all(t, m, 4)[1:]; !slices.Equal(got, []uint32{0x83828180, 0, 0xf7f6f5f4}) {
		t.Errorf("6.2: sw of X 0: %x", got)
	}
}

// All words of the memory.
func all(t *testing.T, c *Core, n int) []uint32 {
	t.Helper()
	var l []uint32
	for i := range n {
		x, e := c.Word(uint32(4 * i))
		if e != api.OK {
			t.Fatalf("6.1: Word of %d: %v", i, e)
		}
		l = append(l, x)
	}
	if _, e := c.Word(uint32(4 * n)); e != api.ErrNone {
		t.Fatalf("6.1: Word behind the end: %v", e)
	}
	return l
}

func TestBranches(t *testing.T) {
	taken := map[string][6]int{ // of (1, 1), (1, 2), (2, 1), (-1, 1), (1, -1), (-2^31, 2^31 - 1)
		"beq": {1, 0, 0, 0, 0, 0}, "bne": {0, 1, 1, 1, 1, 1}, "blt": {0, 1, 0, 1, 0, 1},
		"bge": {1, 0, 1, 0, 1, 0}, "bltu": {0, 1, 0, 0, 1, 0}, "bgeu": {1, 0, 1, 1, 0, 1},
	}
	values := [6][2]uint32{{1, 1}, {1, 2}, {2, 1}, {ones, 1}, {1, ones}, {0x80000000, 0x7fffffff}}
	for op, l := range taken {
		for k, is := range l {
			for _, imm := range []int32{8, -8, 4, 0, 2, -2, -4096, 4094} {
				r := some()
				r.X[6], r.X[7] = values[k][0], values[k][1]
				want := r
				want.PC = 0x44
				if is == 1 {
					want.PC = uint32(0x40 + int(imm))
				}
				c := step(t, r, pair(op, 6, 7, imm), want, 2)
				if c.Leak().At != 0 {
					t.Error("6.2: Leak of a branch", c.Leak())
				}
			}
		}
	}
}

func TestJumps(t *testing.T) {
	for _, c := range []struct {
		i      api.Ins
		x6     uint32
		rd, to uint32
	}{
		{one("jal", 5, 8), 0, 0x44, 0x48}, {one("jal", 5, -64), 0, 0x44, 0}, {one("jal", 5, -68), 0, 0x44, ones - 3},
		{one("jal", 5, 2), 0, 0x44, 0x42}, {one("jal", 5, 0), 0, 0x44, 0x40}, {one("jal", 5, 1<<20-2), 0, 0x44, 0x40 + 1<<20 - 2},
		{one("jal", 5, -1<<20), 0, 0x44, 0xfff00040},
		{two("jalr", 5, 6, 8), 0x50, 0x44, 0x58}, {two("jalr", 5, 6, -8), 0x50, 0x44, 0x48}, {two("jalr", 5, 6, 0), 0x51, 0x44, 0x50},
		{two("jalr", 5, 6, 1), 0x51, 0x44, 0x52}, {two("jalr", 5, 6, 1), 0x50, 0x44, 0x50}, {two("jalr", 5, 6, 0), ones, 0x44, ones - 1},
		{two("jalr", 5, 6, 4), ones, 0x44, 2}, {two("jalr", 5, 0, 12), 0, 0x44, 12},
	} {
		r := some()
		r.X[6] = c.x6
		want := r
		want.PC, want.X[5] = c.to, c.rd
		step(t, r, c.i, want, 2)
		i := c.i
		i.Rd = 0
		want = r
		want.PC = c.to
		step(t, r, i, want, 2)
	}
	// Rd is R1: it goes where that was
	r := some()
	r.X[5] = 0x20
	want := r
	want.PC, want.X[5] = 0x24, 0x44
	step(t, r, two("jalr", 5, 5, 4), want, 2)
}

func TestJumpToNoMultiple(t *testing.T) {
	c := made(t, words(t, one("jal", 1, 6), alone("fence"), alone("fence")))
	c.Put(api.Regs{Tvec: 8})
	run(t, c, 2)
	want := trapped(api.Regs{PC: 6, Tvec: 8, X: [32]uint32{1: 4}}, 0, 6)
	if c.Regs() != want || c.Time() != 6 || c.Leak() != (api.Leak{PC: 6, Time: 2}) {
		t.Error("6.2: fault 0", c.Regs(), c.Time(), c.Leak())
	}
}

// What each status register has in some().
func statusOf(r api.Regs, n int) uint32 {
	switch n {
	case api.CStatus:
		return r.Status
	case api.CIe:
		return r.Ie
	case api.CTvec:
		return r.Tvec
	case api.CScratch:
		return r.Scratch
	case api.CEpc:
		return r.Epc
	case api.CCause:
		return r.Cause
	case api.CTval:
		return r.Tval
	case api.CIp, api.CCycle:
		return 0 // no timer, at time 0
	}
	return r.Guard[n-api.CGuard]
}

func numbersOfStatus() []int {
	l := []int{api.CStatus, api.CIe, api.CTvec, api.CScratch, api.CEpc, api.CCause, api.CTval}
	for i := range 16 {
		l = append(l, api.CGuard+i)
	}
	return l
}

func TestStatusRegisters(t *testing.T) {
	for _, n := range numbersOfStatus() {
		for _, x := range []uint32{0, 8, 0x80, 0xff, 0x1800, 0x5555aaaa, ones} {
			for _, rd := range []int{0, 5, 6} {
				r := some()
				r.X[6] = x
				old := statusOf(r, n)
				for op, y := range map[string]uint32{"csrrw": x, "csrrs": old | x, "csrrc": old &^ x} {
					want, e := csr.Write(r, n, y)
					if e != api.OK {
						t.Fatalf("5.1: Write of %#x: %v", n, e)
					}
					want.PC = 0x44
					if rd != 0 {
						want.X[rd] = old
					}
					step(t, r, two(op, rd, 6, int32(n)), want, 1)
				}
			}
		}
	}
}

// By hand: what is written stands there, and what a register does not hold is not written.
func TestStatusByHand(t *testing.T) {
	for _, c := range []struct {
		op   string
		n    int32
		x    uint32
		want func(r *api.Regs)
	}{
		{"csrrw", api.CScratch, 7, func(r *api.Regs) { r.X[5], r.Scratch = 0x5a5a5a5a, 7 }},
		{"csrrs", api.CScratch, 7, func(r *api.Regs) { r.X[5], r.Scratch = 0x5a5a5a5a, 0x5a5a5a5f }},
		{"csrrc", api.CScratch, 0xf, func(r *api.Regs) { r.X[5], r.Scratch = 0x5a5a5a5a, 0x5a5a5a50 }},
		{"csrrw", api.CTvec, 0x83, func(r *api.Regs) { r.X[5], r.Tvec = 0x104, 0x80 }},
		{"csrrs", api.CEpc, 0xb, func(r *api.Regs) { r.X[5], r.Epc = 0x44, 0x4c }},
		{"csrrc", api.CStatus, 0x800, func(r *api.Regs) { r.X[5], r.Status = 0x1888, 0x88 }},
		{"csrrc", api.CStatus, 8, func(r *api.Regs) { r.X[5], r.Status = 0x1888, 0x1880 }},
		{"csrrw", api.CIe, ones, func(r *api.Regs) { r.X[5], r.Ie = 0, 0x80 }},
		{"csrrs", api.CGuard + 15, 0x10, func(r *api.Regs) { r.X[5], r.Guard[15] = 0x200f, 0x201f }},
	} {
		r := some()
		r.X[6] = c.x
		want := r
		want.PC = 0x44
		c.want(&want)
		step(t, r, two(c.op, 5, 6, c.n), want, 1)
	}
}

// With R1 0 csrrs and csrrc write nothing: bits that Write would not put there stay; csrrw writes 0.
func TestStatusWithoutR1(t *testing.T) {
	for _, n := range append(numbersOfStatus(), api.CIp, api.CCycle) {
		for _, op := range []string{"csrrs", "csrrc"} {
			r := some()
			r.Status, r.Tvec, r.Epc, r.Ie = ones, ones, ones, 0x7f
			want := r
			want.PC, want.X[5] = 0x44, statusOf(r, n)
			step(t, r, two(op, 5, 0, int32(n)), want, 1)
		}
	}
	r := some()
	want := r
	want.PC, want.X[5], want.Scratch = 0x44, r.Scratch, 0
	step(t, r, two("csrrw", 5, 0, api.CScratch), want, 1)
}

// R1 counts, not what it has: a write of no bits is a write.
func TestStatusWithNoughtInR1(t *testing.T) {
	r := some()
	r.X[6], r.Epc = 0, 0x47
	want := r
	want.PC, want.X[5], want.Epc = 0x44, 0x47, 0x44
	step(t, r, two("csrrs", 5, 6, api.CEpc), want, 1)
	step(t, r, two("csrrc", 5, 6, api.CEpc), want, 1)
}

func TestStatusFaults(t *testing.T) {
	for _, op := range []string{"csrrw", "csrrs", "csrrc"} {
		for _, x := range []uint32{0, 1, ones} {
			r := some()
			r.X[6] = x
			for _, n := range []int32{api.CIp, api.CCycle} {
				i := two(op, 5, 6, n)
				step(t, r, i, trapped(r, 2, put(t, i)), 4)
			}
			for _, n := range []int32{0, 1, 0x2ff, 0x301, 0x303, 0x306, 0x33f, 0x345, 0x7bf, 0x7d0, 0xbff, 0xc01, 0xc80, 0xfff} {
				for _, r1 := range []int{0, 6} {
					i := two(op, 5, r1, n)
					step(t, r, i, trapped(r, 2, put(t, i)), 4)
				}
			}
		}
	}
	r := some()
	for _, n := range []int32{api.CIp, api.CCycle} {
		i := two("csrrw", 0, 0, n)
		step(t, r, i, trapped(r, 2, put(t, i)), 4)
	}
}

func TestCycle(t *testing.T) {
	c := made(t, words(t, three("div", 0, 0, 0), three("mul", 0, 0, 0), two("csrrs", 1, 0, api.CCycle), two("csrrs", 2, 0, api.CCycle)))
	run(t, c, 4)
	if r := c.Regs(); r.X[1] != 23 || r.X[2] != 24 || c.Time() != 25 {
		t.Error("6.2: CCycle is the time ahead of the instruction", r.X[1], r.X[2], c.Time())
	}
}

func TestMret(t *testing.T) {
	for _, c := range []struct {
		status, want uint32
		user         bool
	}{{0, 0x80, true}, {0x80, 0x88, true}, {0x1800, 0x80, false}, {0x1880, 0x88, false}, {0x1888, 0x88, false}} {
		r := some()
		r.Status, r.Epc = c.status, 0x62
		want := r
		want.PC, want.Status, want.User = 0x62, c.want, c.user
		if m := step(t, r, alone("mret"), want, 4); m.Leak().At != 0 {
			t.Error("6.2: Leak of mret", m.Leak())
		}
	}
}

func TestFence(t *testing.T) {
	for _, user := range []bool{false, true} {
		r := some()
		r.User, r.Guard = user, [16]uint32{0, 0x101}
		want := r
		want.PC = 0x44
		step(t, r, alone("fence"), want, 1)
	}
}

func TestCalls(t *testing.T) {
	for _, status := range []uint32{0, 8, 0x1888} {
		r := some()
		r.Status, r.Guard = status, [16]uint32{0, 0x101}
		step(t, r, alone("ecall"), trapped(r, 11, 0), 4)
		step(t, r, alone("ebreak"), trapped(r, 3, 0x40), 4)
		r.User = true
		step(t, r, alone("ecall"), trapped(r, 8, 0), 4)
		step(t, r, alone("ebreak"), trapped(r, 3, 0x40), 4)
	}
}

// One fault of a core with the registers r; the word of its instruction stands at PC, where there is memory.
func expectFault(t *testing.T, r api.Regs, x uint32, cause, val, leak uint32) {
	t.Helper()
	c := at(t, r, x)
	was := all(t, c, 64)
	if !c.Step() || c.Regs() != trapped(r, cause, val) || c.Time() != 4 {
		t.Errorf("6.2: fault %d %#x of %#x, %+v: %+v, %d", cause, val, x, r, c.Regs(), c.Time())
	}
	if k := c.Leak(); k != (api.Leak{PC: r.PC, At: leak}) {
		t.Errorf("6.2: Leak of fault %d %#x: %+v", cause, val, k)
	}
	if !slices.Equal(all(t, c, 64), was) || len(c.Events()) != 0 {
		t.Errorf("6.2: fault %d %#x: memory or events changed", cause, val)
	}
}

// Each thing that may be wrong together with all behind it: the first counts.
func TestOrderOfFaultsOfFetch(t *testing.T) {
	kernel := some()
	kernel.Guard = [16]uint32{}
	user := kernel
	user.User = true
	for _, pc := range []uint32{1, 2, 3, 0x41, 0x42, 0x43, 0x101, 0x1000002, ones, ones - 1, ones - 2} {
		for _, r := range []api.Regs{kernel, user} {
			r.PC = pc
			expectFault(t, r, 0, 0, pc, 0)
		}
	}
	mret := put(t, alone("mret"))
	for _, pc := range []uint32{0x40, 0x100, 0x1000000, ones - 3} {
		user.PC, kernel.PC = pc, pc
		expectFault(t, user, mret, 1, pc, 0)
		if pc >= 0x100 {
			expectFault(t, kernel, mret, 1, pc, 0)
			user.Guard = [16]uint32{0, 0xfffffffd, 0x80000000, ones}
			expectFault(t, user, mret, 1, pc, 0)
			user.Guard = [16]uint32{}
		}
	}
	user.Guard = [16]uint32{0x40, 0x45}
	user.PC, kernel.PC = 0x40, 0x40
	for _, x := range []uint32{0, ones, 0x00000073 | 1<<7, 0x30200073 | 1<<7, 0x0000100f, 16, 0x7f} {
		expectFault(t, user, x, 2, x, 0)
		expectFault(t, kernel, x, 2, x, 0)
	}
	for _, i := range []api.Ins{
		alone("mret"), alone("wfi"), two("csrrw", 1, 2, api.CScratch), two("csrrs", 1, 0, api.CCycle),
		two("csrrc", 0, 0, api.CStatus), two("csrrs", 1, 0, 0x7ff),
	} {
		x := put(t, i)
		expectFault(t, user, x, 2, x, 0)
	}
}

// What regions let a task fetch.
func TestFetchOfUser(t *testing.T) {
	r := some()
	r.User = true
	x := put(t, alone("fence"))
	for _, c := range []struct {
		guard [16]uint32
		may   bool
	}{
		{[16]uint32{}, false}, {[16]uint32{0x40, 0x45}, true}, {[16]uint32{0x40, 0x44}, false}, {[16]uint32{0x40, 0x46}, false},
		{[16]uint32{0x40, 0x47}, true}, {[16]uint32{0x44, 0x81}, false}, {[16]uint32{0, 0x41}, false}, {[16]uint32{0, 0x45}, true},
		{[16]uint32{14: 0x40, 15: 0x45}, true}, {[16]uint32{0, 0x44, 0, 0x46, 0, 0x45}, true}, {[16]uint32{0x43, 0x45}, true},
	} {
		r.Guard = c.guard
		if !c.may {
			expectFault(t, r, x, 1, 0x40, 0)
			continue
		}
		want := r
		want.PC = 0x44
		step(t, r, alone("fence"), want, 1)
	}
	// the kernel asks no region
	r.User, r.Guard = false, [16]uint32{}
	want := r
	want.PC = 0x44
	step(t, r, alone("fence"), want, 1)
}

func TestFaultsOfLoadsAndStores(t *testing.T) {
	sizes := map[string]uint32{"lb": 1, "lbu": 1, "lh": 2, "lhu": 2, "lw": 4, "sb": 1, "sh": 2, "sw": 4}
	for op, size := range sizes {
		i, cause := two(op, 5, 6, 0), uint32(4)
		if op[0] == 's' {
			i, cause = pair(op, 6, 7, 0), 6
		}
		x := put(t, i)
		for _, user := range []bool{false, true} {
			for _, to := range []uint32{0, 0x20, 0x80, 0xfc, 0x100, 0x1000, 0x40000000, 0x80000000, ones - 3} {
				for by := range uint32(4) {
					r := some()
					// to a task all that there is, but to run at 0x40 alone
					r.User, r.X[6] = user, to+by
					r.Guard = [16]uint32{0x40, 0x45, 0, 0xfffffffe}
					switch {
					case (to+by)%size != 0:
						expectFault(t, r, x, cause, to+by, to+by)
					case to >= 0x100 && (op != "sw" || user || to != api.DCmp):
						expectFault(t, r, x, cause+1, to+by, to+by)
					default:
						c := at(t, r, x)
						if !c.Step() || c.Regs().PC != 0x44 || c.Time() != 2 || c.Leak().At != to+by {
							t.Errorf("6.2: %s at %#x: %+v, %d", op, to+by, c.Regs(), c.Time())
						}
					}
				}
			}
		}
	}
}

// A task's loads ask for Read, its stores for Write, of as many bytes as they have.
func TestLoadsAndStoresOfUser(t *testing.T) {
	for _, c := range []struct {
		lo, hi      uint32
		at          uint32
		read, write bool
	}{
		{0x80, 0x84, 0x80, true, false}, {0x80, 0x85, 0x80, true, false}, {0x80, 0x86, 0x80, true, true}, {0x80, 0x87, 0x80, true, true},
		{0x80, 0x86, 0x7c, false, false}, {0x80, 0x86, 0x84, false, false}, {0x80, 0x8a, 0x84, true, true}, {0, 0, 0x80, false, false},
	} {
		for op, how := range map[string]bool{"lb": c.read, "lhu": c.read, "lw": c.read, "sb": c.write, "sh": c.write, "sw": c.write} {
			i, cause := two(op, 5, 6, 0), uint32(5)
			if op[0] == 's' {
				i, cause = pair(op, 6, 7, 0), 7
			}
			r := some()
			r.User, r.X[6], r.Guard = true, c.at, [16]uint32{0x40, 0x45, 4: c.lo, 5: c.hi}
			if !how {
				expectFault(t, r, put(t, i), cause, c.at, c.at)
				continue
			}
			want := r
			want.PC = 0x44
			if op[0] == 'l' {
				want.X[5] = 0
			}
			step(t, r, i, want, 2)
			r.User = false
			want.User = false
			r.Guard, want.Guard = [16]uint32{}, [16]uint32{}
			step(t, r, i, want, 2)
		}
	}
}

// A fault of Rd 0, or of a load to its own R1, changes no register.
func TestFaultChangesNothingElse(t *testing.T) {
	r := some()
	r.X[6] = 0x102
	for _, rd := range []int{0, 5, 6} {
		expectFault(t, r, put(t, two("lw", rd, 6, 0)), 4, 0x102, 0x102)
		expectFault(t, r, put(t, two("lh", rd, 6, 0)), 5, 0x102, 0x102)
	}
}

// 32 bits of an address wrap round.
func TestAddressesWrapRound(t *testing.T) {
	r := some()
	r.X[6] = 2
	expectFault(t, r, put(t, two("lb", 5, 6, -3)), 5, ones, ones)
	expectFault(t, r, put(t, two("lw", 5, 6, -3)), 4, ones, ones)
	expectFault(t, r, put(t, pair("sh", 6, 7, -4)), 7, ones-1, ones-1)
	c := made(t, []uint32{15})
	c.Put(api.Regs{PC: ones - 3})
	run(t, c, 1)
	if c.Regs() != trapped(api.Regs{PC: ones - 3}, 1, ones-3) {
		t.Error("6.2: PC at the end of all", c.Regs())
	}
}

func devices() []uint32 {
	return []uint32{api.DCmp, api.DTask, api.DKind, api.DSay, api.DStop}
}

// Devices are for whole words, and not for a task, whatever its regions are; none is to be read.
func TestDevicesThatAreNone(t *testing.T) {
	for _, d := range devices() {
		for _, user := range []bool{false, true} {
			r := some()
			r.User, r.X[6] = user, d
			for _, guard := range [][16]uint32{{0x40, 0x45}, {0x40, 0x45, 0x40000000, 0x40000022}, {0, 0xffffffff}} {
				r.Guard = guard
				for _, op := range []string{"lb", "lbu", "lh", "lhu", "lw"} {
					expectFault(t, r, put(t, two(op, 5, 6, 0)), 5, d, d)
				}
				expectFault(t, r, put(t, pair("sb", 6, 7, 0)), 7, d, d)
				expectFault(t, r, put(t, pair("sh", 6, 7, 0)), 7, d, d)
				expectFault(t, r, put(t, pair("sh", 6, 7, 2)), 7, d+2, d+2)
				expectFault(t, r, put(t, pair("sw", 6, 7, 1)), 6, d+1, d+1)
				if user {
					expectFault(t, r, put(t, pair("sw", 6, 7, 0)), 7, d, d)
				}
			}
		}
	}
	r := some()
	r.X[6] = api.DCmp
	for _, by := range []int32{-4, 20, 24, 2044} {
		to := uint32(int64(api.DCmp) + int64(by))
		expectFault(t, r, put(t, pair("sw", 6, 7, by)), 7, to, to)
	}
}

func TestDevices(t *testing.T) {
	for _, d := range devices() {
		r := some()
		r.X[6], r.X[7] = d-4, 0x80000003
		want := r
		want.PC = 0x44
		c := step(t, r, pair("sw", 6, 7, 4), want, 2)
		if c.Leak() != (api.Leak{PC: 0x40, At: d}) {
			t.Errorf("6.2: Leak of %#x: %+v", d, c.Leak())
		}
		if got := len(c.Events()); got != 0 != (d == api.DSay) {
			t.Errorf("6.2: events of %#x: %d", d, got)
		}
		if c.Step() == (d == api.DStop) {
			t.Errorf("6.2: Step behind %#x", d)
		}
		if _, e := c.Word(d); e != api.ErrNone {
			t.Errorf("6.2: Word of %#x: a device is no memory", d)
		}
	}
}

// A program of the kernel: each (device, x) stored, one after the other.
func told(t *testing.T, l ...[2]uint32) *Core {
	t.Helper()
	c := made(t, words(t, pair("sw", 6, 7, 0)))
	for _, d := range l {
		r := api.Regs{}
		r.X[6], r.X[7] = d[0], d[1]
		c.Put(r)
		run(t, c, 1)
	}
	return c
}

func TestEvents(t *testing.T) {
	c := told(t, [2]uint32{api.DSay, 5})
	if l := c.Events(); !slices.Equal(l, []api.Event{{N: 5}}) {
		t.Error("6.2: an event ahead of DTask and DKind", l)
	}
	c = told(t, [2]uint32{api.DTask, 3}, [2]uint32{api.DKind, api.ESend}, [2]uint32{api.DSay, 7}, [2]uint32{api.DSay, 7},
		[2]uint32{api.DTask, 1}, [2]uint32{api.DSay, ones}, [2]uint32{api.DKind, api.EHalt}, [2]uint32{api.DTask, ones},
		[2]uint32{api.DSay, 0}, [2]uint32{api.DKind, 0x80000000}, [2]uint32{api.DSay, 1})
	want := []api.Event{
		{Task: 3, Kind: api.ESend, N: 7}, {Task: 3, Kind: api.ESend, N: 7}, {Task: 1, Kind: api.ESend, N: ones},
		{Task: ones, Kind: api.EHalt, N: 0}, {Task: ones, Kind: 0x80000000, N: 1},
	}
	if l := c.Events(); !slices.Equal(l, want) {
		t.Error("6.2: events", l)
	}
	l := c.Events()
	for i := range l {
		l[i] = api.Event{Task: 9}
	}
	_ = append(l, api.Event{Task: 8})
	_ = append(l[:1], api.Event{Task: 7})
	m := c.Events()
	if !slices.Equal(m, want) {
		t.Error("R3: what Events tells is kept", m)
	}
	c.Put(api.Regs{X: [32]uint32{6: api.DSay, 7: 44}})
	run(t, c, 1)
	if !slices.Equal(m, want) || !slices.Equal(c.Events(), append(want, api.Event{Task: ones, Kind: 0x80000000, N: 44})) {
		t.Error("R3: an event behind what was told", m, c.Events())
	}
}

func TestStop(t *testing.T) {
	c := made(t, words(t, pair("sw", 6, 0, 16), alone("fence")))
	c.Put(api.Regs{Ie: 0x80, Status: 8, X: [32]uint32{6: api.DCmp}})
	if !c.Step() {
		t.Error("6.2: the step that stops is done")
	}
	leak := api.Leak{At: api.DStop}
	for range 3 {
		if c.Step() || c.Time() != 2 || c.Regs().PC != 4 || c.Leak() != leak {
			t.Error("6.2: it has stopped", c.Time(), c.Regs(), c.Leak())
		}
	}
	r := some()
	r.PC = 0
	c.Put(r)
	if c.Step() || c.Regs() != r || c.Time() != 2 || c.Leak() != leak {
		t.Error("6.2: Put does not make it go on", c.Regs(), c.Time(), c.Leak())
	}
	if x, e := c.Word(4); x != 15 || e != api.OK {
		t.Error("6.1: Word of one that has stopped", x, e)
	}
}

// A timer that is due does not come any more behind DStop.
func TestStopAheadOfTheTimer(t *testing.T) {
	c := told(t, [2]uint32{api.DCmp, 0})
	c.Put(api.Regs{X: [32]uint32{6: api.DStop}})
	run(t, c, 1)
	c.Put(api.Regs{Ie: 0x80, User: true})
	if c.Step() || c.Time() != 4 || c.Regs().Cause != 0 {
		t.Error("6.2: the timer came behind DStop", c.Regs(), c.Time())
	}
}

// A core whose timer was set to the time 2 and x, and that has done so many fences, each of cost 1, since then.
func timed(t *testing.T, x uint32, fences int, late ...int) *Core {
	t.Helper()
	c := made(t, words(t, pair("sw", 6, 7, 0), alone("fence"), alone("fence"), two("csrrs", 1, 0, api.CIp), alone("wfi")), late...)
	c.Put(api.Regs{X: [32]uint32{6: api.DCmp, 7: x}})
	run(t, c, 1)
	for range fences {
		c.Put(api.Regs{PC: 4})
		run(t, c, 1)
	}
	if c.Time() != 2+fences {
		t.Fatal("6.2: fences", c.Time())
	}
	return c
}

func timerOn() api.Regs {
	r := some()
	r.PC, r.Ie, r.Status = 4, 0x80, 8
	return r
}

func expectTimer(t *testing.T, c *Core, r api.Regs, late int) {
	t.Helper()
	ahead := c.Time()
	c.Put(r)
	if !c.Step() || c.Regs() != trapped(r, 0x80000007, 0) || c.Time() != ahead+4+late {
		t.Errorf("6.2: the timer of %+v: %+v, time %d, then %d, not %d more", r, c.Regs(), ahead, c.Time(), 4+late)
	}
	if c.Leak() != (api.Leak{PC: r.PC, Time: ahead}) {
		t.Errorf("6.2: Leak of the timer: %+v", c.Leak())
	}
}

func expectNoTimer(t *testing.T, c *Core, r api.Regs) {
	t.Helper()
	ahead := c.Time()
	c.Put(r)
	want := r
	want.PC += 4
	if !c.Step() || c.Regs() != want || c.Time() != ahead+1 {
		t.Errorf("6.2: a timer that does not come, of %+v: %+v, time %d, then %d", r, c.Regs(), ahead, c.Time())
	}
}

func TestTimerOnItsTime(t *testing.T) {
	for _, x := range []uint32{0, 1, 2, 5, 9} {
		for fences := range 12 {
			for _, user := range []bool{false, true} {
				r := timerOn()
				r.User, r.Guard = user, [16]uint32{0, 0x15}
				c := timed(t, x, fences)
				if uint32(fences) >= x {
					expectTimer(t, c, r, 0)
				} else {
					expectNoTimer(t, c, r)
				}
			}
		}
	}
	expectNoTimer(t, timed(t, ones, 50), timerOn())
}

func TestTimerBits(t *testing.T) {
	for _, user := range []bool{false, true} {
		for _, ie := range []uint32{0, 0x80, ones, ones &^ 0x80} {
			for _, status := range []uint32{0, 8, ones, ones &^ 8, 0x80, 0x1880} {
				r := timerOn()
				r.User, r.Ie, r.Status, r.Guard = user, ie, status, [16]uint32{0, 0x15}
				c := timed(t, 3, 5)
				if ie&0x80 != 0 && (user || status&8 != 0) {
					expectTimer(t, c, r, 0)
				} else {
					expectNoTimer(t, c, r)
				}
			}
		}
	}
}

// The timer comes ahead of whatever the instruction would have done.
func TestTimerAheadOfFaults(t *testing.T) {
	for _, pc := range []uint32{0, 2, 0x1000, ones} {
		for _, user := range []bool{false, true} {
			r := timerOn()
			r.PC, r.User = pc, user
			expectTimer(t, timed(t, 0, 0), r, 0)
		}
	}
}

// It stays due, until it is set once more: Trap alone keeps it away.
func TestTimerStays(t *testing.T) {
	c := timed(t, 1, 4)
	expectTimer(t, c, timerOn(), 0)
	r := c.Regs()
	r.PC = 4
	expectNoTimer(t, c, r)
	expectTimer(t, c, timerOn(), 0)
	c.Put(api.Regs{Ie: 0x80, X: [32]uint32{6: api.DCmp, 7: 3}})
	run(t, c, 1)
	for range 3 {
		expectNoTimer(t, c, timerOn())
	}
	expectTimer(t, c, timerOn(), 0)
}

// Set to a later time it is not due any more; what the last store said counts.
func TestTimerIsSetAnew(t *testing.T) {
	c := told(t, [2]uint32{api.DCmp, 0}, [2]uint32{api.DCmp, 100}, [2]uint32{api.DCmp, 1})
	if c.Time() != 6 {
		t.Fatal("6.2: stores", c.Time())
	}
	c.Put(api.Regs{Ie: 0x80, Status: 8, X: [32]uint32{6: api.DTask}})
	run(t, c, 1)
	if r := c.Regs(); r.Cause != 0 || c.Time() != 8 {
		t.Error("6.2: ahead of the timer", r, c.Time())
	}
	run(t, c, 1)
	if r := c.Regs(); r.Cause != 0x80000007 || r.Epc != 4 || c.Time() != 12 {
		t.Error("6.2: behind it", r, c.Time())
	}
	c = told(t, [2]uint32{api.DCmp, 0}, [2]uint32{api.DCmp, 100})
	c.Put(api.Regs{Ie: 0x80, Status: 8, X: [32]uint32{6: api.DTask}})
	run(t, c, 1)
	if r := c.Regs(); r.Cause != 0 {
		t.Error("6.2: set to later", r)
	}
}

func TestIp(t *testing.T) {
	for fences := range 6 {
		c := timed(t, 3, fences)
		c.Put(api.Regs{PC: 12})
		run(t, c, 1)
		want := uint32(0)
		if fences >= 3 {
			want = 128
		}
		if x := c.Regs().X[1]; x != want {
			t.Errorf("6.2: CIp %d behind: %d", fences, x)
		}
	}
}

func TestLate(t *testing.T) {
	for _, late := range [][]int{
		nil, {}, {0}, {7}, {7, 100}, {-5, 100}, {-1, -2, 3}, {0, 0, 1}, {math.MinInt, 2}, {1 << 40, 1, -1, 6},
	} {
		c := timed(t, 0, 0, late...)
		for k := range 7 {
			want := 0
			if k < len(late) && late[k] > 0 {
				want = late[k]
			}
			// Neither an instruction nor another trap takes a number.
			expectNoTimer(t, c, api.Regs{PC: 4})
			c.Put(api.Regs{PC: 2})
			run(t, c, 1)
			expectTimer(t, c, timerOn(), want)
		}
	}
}

func TestWfi(t *testing.T) {
	for fences := range 8 {
		c := timed(t, 3, fences)
		c.Put(api.Regs{PC: 16})
		run(t, c, 1)
		want := max(2+fences, 5) + 1
		if r := c.Regs(); r != (api.Regs{PC: 20}) || c.Time() != want {
			t.Errorf("6.2: wfi %d behind: %+v, %d", fences, r, c.Time())
		}
		if k := c.Leak(); k != (api.Leak{PC: 16, Time: 2 + fences}) {
			t.Errorf("6.2: Leak of wfi: %+v", k)
		}
	}
	c := timed(t, ones, 0)
	c.Put(api.Regs{PC: 16})
	run(t, c, 1)
	if c.Time() != 2+ones+1 {
		t.Error("6.2: wfi for long", c.Time())
	}
	expectTimer(t, c, timerOn(), 0)
	r := some()
	want := r
	want.PC = 0x44
	step(t, r, alone("wfi"), want, 1)
}

// A timer that is due comes in place of wfi; with its bits off wfi goes by.
func TestWfiOfADueTimer(t *testing.T) {
	r := timerOn()
	r.PC = 16
	expectTimer(t, timed(t, 1, 4), r, 0)
	r.Ie = 0
	expectNoTimer(t, timed(t, 1, 4), r)
}

func TestLeak(t *testing.T) {
	c := made(t, words(t, two("lbu", 1, 0, 9), two("addi", 1, 1, 1), pair("sw", 0, 1, 20), alone("ecall"), one("jal", 0, 0), alone("fence")))
	c.Put(api.Regs{Tvec: 16})
	for _, want := range []api.Leak{{PC: 0, At: 9}, {PC: 4, Time: 2}, {PC: 8, At: 20, Time: 3}, {PC: 12, Time: 5}, {PC: 16, Time: 9}} {
		run(t, c, 1)
		if c.Leak() != want {
			t.Errorf("6.2: Leak: %+v, not %+v", c.Leak(), want)
		}
		c.Put(c.Regs())
		if c.Leak() != want {
			t.Errorf("6.2: Leak behind Put: %+v, not %+v", c.Leak(), want)
		}
	}
	// a load that is not fetched, or that User may not, asks for no memory of its own
	r := some()
	r.User, r.Guard = true, [16]uint32{}
	expectFault(t, r, put(t, two("lw", 5, 0, 8)), 1, 0x40, 0)
}

func TestStoredCode(t *testing.T) {
	c := made(t, append(words(t, two("lw", 1, 0, 12), pair("sw", 0, 1, 8), alone("ebreak")), put(t, two("addi", 2, 0, 77))))
	run(t, c, 3)
	if r := c.Regs(); r.X[2] != 77 || r.PC != 12 || c.Time() != 5 {
		t.Error("6.2: what was stored is done", r, c.Time())
	}
}

func TestNil(t *testing.T) {
	var c *Core
	c.Put(some())
	if x, e := c.Word(0); x != 0 || e != api.ErrNone {
		t.Error("6.2: Word of nil", x, e)
	}
	if x, e := c.Word(1); x != 0 || e != api.ErrNone {
		t.Error("6.2: Word of nil at no multiple", x, e)
	}
	if c.Step() || c.Time() != 0 || c.Regs() != (api.Regs{}) || c.Leak() != (api.Leak{}) || len(c.Events()) != 0 {
		t.Error("6.2: methods of nil")
	}
}

// One that New did not make has no memory: it panics nowhere.
func TestZeroCore(t *testing.T) {
	c := new(Core)
	if !c.Step() || c.Regs() != trapped(api.Regs{}, 1, 0) || c.Time() != 4 {
		t.Error("R1: a core without memory", c.Regs(), c.Time())
	}
	if x, e := c.Word(0); x != 0 || e != api.ErrNone {
		t.Error("R1: Word of a core without memory", x, e)
	}
}

func TestNewKeepsNothing(t *testing.T) {
	l, late := append(words(t, pair("sw", 6, 7, 0)), 5, 6), []int{3, 4}
	was, wasLate := slices.Clone(l), slices.Clone(late)
	c := made(t, l, late...)
	d, e := New(l, late)
	if e != api.OK {
		t.Fatal("6.1: New", e)
	}
	c.Put(api.Regs{X: [32]uint32{6: 4, 7: 99}})
	run(t, c, 1)
	if !slices.Equal(l, was) || !slices.Equal(late, wasLate) {
		t.Error("R3: what was handed in is changed", l, late)
	}
	if x, _ := d.Word(4); x != 5 {
		t.Error("R5: a store is seen in another core", x)
	}
	l[2], late[0], late[1] = 77, 1000, 1000
	if x, _ := c.Word(8); x != 6 {
		t.Error("R3: New keeps its words", x)
	}
	d.Put(api.Regs{X: [32]uint32{6: api.DCmp}})
	run(t, d, 1)
	expectTimer(t, d, timerOn(), 3)
	expectTimer(t, d, timerOn(), 4)
	if !slices.Equal(late, []int{1000, 1000}) {
		t.Error("R3: late is changed", late)
	}
	if c.due() || len(c.Events()) != 0 {
		t.Error("R5: a timer is seen in another core")
	}
}
