package core

import (
	"math/rand"
	"slices"
	"testing"

	"footman/api"
)

// till runs until the core stops, and tells in how many steps.
func till(t *testing.T, c *Core, most int) int {
	t.Helper()
	for n := range most {
		if !c.Step() {
			return n
		}
	}
	t.Fatalf("6.2: it has not stopped behind %d steps", most)
	return 0
}

// Euclid's way: X 3 is the greatest that divides both.
func TestProgramOfDivision(t *testing.T) {
	for _, v := range []struct{ a, b, want uint32 }{{48, 36, 12}, {17, 5, 1}, {0, 9, 9}, {9, 0, 9}, {ones, 15, 15}} {
		c := made(t, words(t,
			pair("beq", 2, 0, 20), // 0
			three("remu", 3, 1, 2),
			two("addi", 1, 2, 0),
			two("addi", 2, 3, 0),
			one("jal", 0, -16),
			pair("sw", 6, 1, 12), // 20: DSay
			pair("sw", 6, 0, 16),
		))
		c.Put(api.Regs{X: [32]uint32{1: v.a, 2: v.b, 6: api.DCmp}})
		n := till(t, c, 500)
		if l := c.Events(); !slices.Equal(l, []api.Event{{N: v.want}}) {
			t.Error("6.2: the greatest divisor", v, l)
		}
		turns := (n - 3) / 5
		if c.Time() != turns*(2+20+1+1+2)+6 {
			t.Error("6.2: its time", v, n, c.Time())
		}
	}
}

// Words moved from one place to another byte by byte, then summed up, with a function that is called.
func TestProgramOfBytes(t *testing.T) {
	code := words(t,
		two("addi", 1, 0, 0x60), // 0: from
		two("addi", 2, 0, 0x80), // 4: to
		one("jal", 31, 28),      // 8: copy
		pair("sw", 6, 5, 12),    // 12
		pair("sw", 6, 0, 16),    // 16
		alone("ebreak"), alone("ebreak"), alone("ebreak"), alone("ebreak"),
		two("lbu", 3, 1, 0),     // 36
		pair("sb", 2, 3, 0),     // 40
		three("add", 5, 5, 3),   // 44
		two("addi", 1, 1, 1),    // 48
		two("addi", 2, 2, 1),    // 52
		pair("bltu", 2, 4, -20), // 56
		two("jalr", 0, 31, 0),   // 60
	)
	l := append(code, make([]uint32, 8)...)
	l = append(l, 0x04030201, 0xff000000, 7, 0x80, 0, 0, 0, 0)
	l = append(l, make([]uint32, 8)...)
	c := made(t, l)
	c.Put(api.Regs{X: [32]uint32{4: 0x90, 6: api.DCmp}})
	till(t, c, 500)
	if e := c.Events(); !slices.Equal(e, []api.Event{{N: 1 + 2 + 3 + 4 + 255 + 7 + 128}}) {
		t.Error("6.2: the sum", e)
	}
	if got := all(t, c, len(l))[0x80/4 : 0x94/4]; !slices.Equal(got, []uint32{0x04030201, 0xff000000, 7, 0x80, 0}) {
		t.Errorf("6.2: what was moved: %x", got)
	}
	if c.Time() != 1+1+2+16*(2+2+1+1+1+2)+2+2+2 {
		t.Error("6.2: its time", c.Time())
	}
}

// A kernel with one task: the task counts, the timer comes, the kernel tells the count and goes back, three times.
func TestProgramOfTurns(t *testing.T) {
	code := words(t,
		two("csrrw", 0, 10, api.CTvec), // 0
		two("csrrw", 0, 11, api.CIe),
		two("csrrw", 0, 12, api.CEpc),
		two("csrrw", 0, 13, api.CGuard),
		two("csrrw", 0, 14, api.CGuard+1),
		pair("sw", 6, 7, 0),
		alone("mret"),
		alone("ebreak"),
		pair("sw", 6, 8, 12),           // 32: Tvec
		two("csrrs", 9, 0, api.CCycle), // 36
		two("addi", 15, 15, -1),
		pair("beq", 15, 0, 12),
		pair("sw", 6, 7, 0),
		alone("mret"),
		pair("sw", 6, 0, 16), // 56
		alone("ebreak"),
		two("addi", 8, 8, 1), // 64: the task
		one("jal", 0, -4),
	)
	for _, late := range [][]int{nil, {5, 0, 9}, {-3, 1}} {
		c := made(t, code, late...)
		c.Put(api.Regs{X: [32]uint32{6: api.DCmp, 7: 16, 10: 32, 11: 0x80, 12: 64, 13: 64, 14: 72 | 1, 15: 3}})
		till(t, c, 500)
		// 16 cycles from the store on: mret takes 4 of them, then 12 are the task's: 8 instructions
		if l := c.Events(); !slices.Equal(l, []api.Event{{N: 4}, {N: 8}, {N: 12}}) {
			t.Error("6.2: turns", late, l)
		}
		want := 5 + 2 + 3*(16+4+2+1+1+2) + 2*2 + 2
		for _, n := range late {
			want += max(n, 0)
		}
		if c.Time() != want {
			t.Error("6.2: their time", late, c.Time(), want)
		}
	}
}

// A task may do much, but not beyond its regions: each fault leads to the kernel, which tells cause and value and lets
// the task go on behind it.
func TestProgramOfFaults(t *testing.T) {
	kernel := words(t,
		two("csrrs", 20, 0, api.CCause), // 0: Tvec
		pair("sw", 6, 20, 4),
		two("csrrs", 20, 0, api.CTval),
		pair("sw", 6, 20, 12),
		two("csrrs", 20, 0, api.CEpc),
		two("addi", 20, 20, 4),
		two("csrrw", 0, 20, api.CEpc),
		alone("mret"),
	)
	task := words(t,
		two("lw", 1, 0, 0), // 32
		two("lw", 1, 0, 64),
		pair("sw", 0, 1, 64),
		pair("sw", 0, 1, 32),
		alone("ecall"),
		alone("ebreak"),
		alone("mret"),
		two("lh", 1, 0, 65),
	)
	c := made(t, append(append(kernel, task...), 1234, 0))
	c.Put(api.Regs{PC: 32, User: true, Guard: [16]uint32{32, 64 | 1, 64, 68 | 2}, X: [32]uint32{6: api.DCmp}})
	run(t, c, 2+6*9)
	want := []api.Event{{Task: 5, N: 0}, {Task: 7, N: 32}, {Task: 8}, {Task: 3, N: 52}, {Task: 2, N: 0x30200073}, {Task: 4, N: 65}}
	if l := c.Events(); !slices.Equal(l, want) {
		t.Error("6.2: faults of a task", l)
	}
	if r := c.Regs(); !r.User || r.PC != 64 || r.X[1] != 1234 || c.Time() != 2*2+6*(4+1+2+1+2+1+1+1+4) {
		t.Error("6.2: behind them", r, c.Time())
	}
	run(t, c, 1)
	if r := c.Regs(); r.Cause != 1 || r.Tval != 64 || r.User {
		t.Error("6.2: out of its code", r)
	}
}

// 6.3: whatever registers have, a step of the same instruction takes the same time; a fault takes a fault's.
func TestTimeDoesNotHangOnRegisters(t *testing.T) {
	costs := map[string]int{"mret": 4, "ecall": 4, "ebreak": 4}
	for _, op := range []string{"mul", "mulh", "mulhsu", "mulhu"} {
		costs[op] = 3
	}
	for _, op := range []string{"div", "divu", "rem", "remu"} {
		costs[op] = 20
	}
	for _, op := range []string{"lb", "lh", "lw", "lbu", "lhu", "sb", "sh", "sw", "beq", "bne", "blt", "bge", "bltu", "bgeu", "jal", "jalr"} {
		costs[op] = 2
	}
	r := rand.New(rand.NewSource(63))
	faults := 0
	for n := range 20000 {
		i := anyIns(r)
		s := anyRegs(r)
		s.User, s.PC = n%2 == 0, 0x40
		s.Guard = [16]uint32{0, 0x103}
		c := at(t, s, put(t, i))
		run(t, c, 1)
		want, ok := costs[i.Op]
		if !ok {
			want = 1
		}
		if s.User && kernels(i.Op) || badMemory(i, s) || badStatus(i) {
			want = 4
			faults++
		}
		if c.Time() != want {
			t.Fatalf("6.3: %+v of %+v: time %d, not %d", i, s, c.Time(), want)
		}
	}
	if faults < 100 || faults > 15000 {
		t.Error("too few steps, or too few faults", faults)
	}
}

func kernels(op string) bool {
	return slices.Contains([]string{"mret", "wfi", "csrrw", "csrrs", "csrrc"}, op)
}

func badMemory(i api.Ins, s api.Regs) bool {
	size, ok := map[string]uint32{"lb": 1, "lbu": 1, "lh": 2, "lhu": 2, "lw": 4, "sb": 1, "sh": 2, "sw": 4}[i.Op]
	to := s.X[i.R1] + uint32(i.Imm)
	if i.Op == "sw" && !s.User && slices.Contains(devices(), to) {
		return false
	}
	return ok && (to%size != 0 || to >= 0x100)
}

// Of csrrs and csrrc the number of R1 counts alone.
func badStatus(i api.Ins) bool {
	if i.Op != "csrrw" && i.Op != "csrrs" && i.Op != "csrrc" {
		return false
	}
	if i.Imm == api.CIp || i.Imm == api.CCycle {
		return i.Op == "csrrw" || i.R1 != 0
	}
	return !slices.Contains(numbersOfStatus(), int(i.Imm))
}
