package core

import (
	"math/big"
	"math/rand"
	"slices"
	"strings"
	"testing"

	"footman/api"
	"footman/code"
)

// A second reading of chapter 6: memory is bytes by their addresses, numbers are big, one function goes through the
// chapter's sentences in their order. Of the layers below Get is taken alone.
type reading struct {
	bytes   map[uint32]byte
	r       api.Regs
	time    int
	set     []int // the times that the timer was set to
	late    []int
	task    int
	kind    int
	events  []api.Event
	leak    api.Leak
	stopped bool
}

func read(l []uint32, late []int) *reading {
	a := &reading{bytes: map[uint32]byte{}, late: slices.Clone(late)}
	for i, x := range l {
		for k := range 4 {
			a.bytes[uint32(4*i+k)] = byte(x / (1 << (8 * k)) % 256)
		}
	}
	return a
}

func (a *reading) trap(cause, val uint32) {
	a.r = trapped(a.r, cause, val)
	a.time += 4
}

func (a *reading) due() bool {
	return len(a.set) > 0 && a.time >= a.set[len(a.set)-1]
}

// Whether a task may, byte by byte.
func (a *reading) may(at uint32, size int, how byte) bool {
	for k := range 8 {
		lo, hi := int64(a.r.Guard[2*k])/4*4, int64(a.r.Guard[2*k+1])/4*4
		if how == 'x' && a.r.Guard[2*k+1]%2 == 0 || how == 'w' && a.r.Guard[2*k+1]/2%2 == 0 {
			continue
		}
		within := 0
		for b := int64(at); b < int64(at)+int64(size); b++ {
			if lo <= b && b < hi {
				within++
			}
		}
		if within == size {
			return true
		}
	}
	return false
}

func (a *reading) there(at uint32) bool {
	_, ok := a.bytes[at]
	return ok
}

func (a *reading) number(at uint32, size int) uint32 {
	var x uint32
	for k := size - 1; k >= 0; k-- {
		x = 256*x + uint32(a.bytes[at+uint32(k)])
	}
	return x
}

func (a *reading) step() bool {
	if a.stopped {
		return false
	}
	a.leak = api.Leak{PC: a.r.PC, Time: a.time}
	if a.due() && a.r.Ie/128%2 == 1 && (a.r.User || a.r.Status/8%2 == 1) {
		a.trap(1<<31+7, 0)
		if len(a.late) > 0 {
			if a.late[0] > 0 {
				a.time += a.late[0]
			}
			a.late = a.late[1:]
		}
		return true
	}
	pc := a.r.PC
	if pc%4 != 0 {
		a.trap(0, pc)
		return true
	}
	if a.r.User && !a.may(pc, 4, 'x') || !a.there(pc) {
		a.trap(1, pc)
		return true
	}
	x := a.number(pc, 4)
	i, e := code.Get(x)
	if e != api.OK || a.r.User && (strings.HasPrefix(i.Op, "csr") || i.Op == "mret" || i.Op == "wfi") {
		a.trap(2, x)
		return true
	}
	a.do(i, x)
	a.r.X[0] = 0
	return true
}

func (a *reading) do(i api.Ins, x uint32) {
	r1, r2, imm, next := a.r.X[i.R1], a.r.X[i.R2], uint32(i.Imm), a.r.PC+4
	to := func(rd, cost int, y uint32) {
		a.r.X[rd] = y
		a.time += cost
	}
	switch i.Op {
	case "lui":
		to(i.Rd, 1, imm*4096)
	case "auipc":
		to(i.Rd, 1, imm*4096+a.r.PC)
	case "lb", "lh", "lw", "lbu", "lhu", "sb", "sh", "sw":
		if !a.memory(i, r1+imm, r2) {
			return
		}
		a.time += 2
	case "beq", "bne", "blt", "bge", "bltu", "bgeu":
		s1, s2 := int64(int32(r1)), int64(int32(r2))
		if map[string]bool{"beq": r1 == r2, "bne": r1 != r2, "blt": s1 < s2, "bge": s1 >= s2, "bltu": r1 < r2, "bgeu": r1 >= r2}[i.Op] {
			next = a.r.PC + imm
		}
		a.time += 2
	case "jal":
		to(i.Rd, 2, next)
		next = a.r.PC + imm
	case "jalr":
		to(i.Rd, 2, next)
		next = (r1 + imm) / 2 * 2
	case "csrrw", "csrrs", "csrrc":
		if !a.status(i, r1) {
			a.trap(2, x)
			return
		}
		a.time++
	case "mret":
		next = a.r.Epc
		a.r.User = a.r.Status/2048%2 == 0
		a.r.Status = a.r.Status&^0x1888 | a.r.Status/128%2*8 | 128
		a.time += 4
	case "wfi":
		if len(a.set) > 0 && a.time < a.set[len(a.set)-1] {
			a.time = a.set[len(a.set)-1]
		}
		a.time++
	case "fence":
		a.time++
	case "ecall":
		if a.r.User {
			a.trap(8, 0)
		} else {
			a.trap(11, 0)
		}
		return
	case "ebreak":
		a.trap(3, a.r.PC)
		return
	case "addi", "slti", "sltiu", "xori", "ori", "andi", "slli", "srli", "srai":
		to(i.Rd, 1, operation(i.Op, r1, imm))
	case "mul", "mulh", "mulhsu", "mulhu":
		to(i.Rd, 3, operation(i.Op, r1, r2))
	case "div", "divu", "rem", "remu":
		to(i.Rd, 20, operation(i.Op, r1, r2))
	default:
		to(i.Rd, 1, operation(i.Op, r1, r2))
	}
	a.r.PC = next
}

func (a *reading) memory(i api.Ins, at, x uint32) bool {
	a.leak.At = at
	isStore := i.Op[0] == 's'
	cause, how := uint32(4), byte('r')
	if isStore {
		cause, how = 6, 'w'
	}
	size := map[byte]int{'b': 1, 'h': 2, 'w': 4}[i.Op[1]]
	if at%uint32(size) != 0 {
		a.trap(cause, at)
		return false
	}
	if isStore && !a.r.User && size == 4 && at >= 0x40000000 && at <= 0x40000010 {
		switch at % 32 {
		case 0:
			a.set = append(a.set, a.time+2+int(x))
		case 4:
			a.task = int(x)
		case 8:
			a.kind = int(x)
		case 12:
			a.events = append(a.events, api.Event{Task: a.task, Kind: a.kind, N: x})
		case 16:
			a.stopped = true
		}
		return true
	}
	if a.r.User && !a.may(at, size, how) || !a.there(at) {
		a.trap(cause+1, at)
		return false
	}
	if isStore {
		for k := range size {
			a.bytes[at+uint32(k)] = byte(x / (1 << (8 * k)) % 256)
		}
		return true
	}
	y := int64(a.number(at, size))
	if !strings.HasSuffix(i.Op, "u") && y >= 1<<(8*size-1) {
		y -= 1 << (8 * size)
	}
	a.r.X[i.Rd] = uint32(y)
	return true
}

func (a *reading) status(i api.Ins, r1 uint32) bool {
	places := map[int32]*uint32{
		0x300: &a.r.Status, 0x304: &a.r.Ie, 0x305: &a.r.Tvec, 0x340: &a.r.Scratch, 0x341: &a.r.Epc, 0x342: &a.r.Cause, 0x343: &a.r.Tval,
	}
	for k := range 16 {
		places[int32(0x7c0+k)] = &a.r.Guard[k]
	}
	writes := i.Op == "csrrw" || i.R1 != 0
	p, ok := places[i.Imm]
	if !ok {
		if writes || i.Imm != 0x344 && i.Imm != 0xc00 {
			return false
		}
		x := uint32(a.time)
		if i.Imm == 0x344 {
			x = 0
			if a.due() {
				x = 128
			}
		}
		a.r.X[i.Rd] = x
		return true
	}
	old := *p
	if writes {
		x := map[string]uint32{"csrrw": r1, "csrrs": old | r1, "csrrc": old - old&r1}[i.Op]
		switch i.Imm {
		case 0x300:
			mode := x & 0x1800
			if mode != 0x1800 {
				mode = 0
			}
			x = x&0x88 | mode
		case 0x304:
			x &= 0x80
		case 0x305, 0x341:
			x = x / 4 * 4
		}
		*p = x
	}
	a.r.X[i.Rd] = old
	return true
}

// An operation on big numbers, modulo 2^32 last.
func operation(op string, x, y uint32) uint32 {
	if strings.HasSuffix(op, "i") {
		op = op[:len(op)-1]
	}
	if op == "sltiu" {
		op = "sltu"
	}
	a, b := big.NewInt(int64(x)), big.NewInt(int64(y))
	sa, sb := big.NewInt(int64(int32(x))), big.NewInt(int64(int32(y)))
	n, out := uint(y%32), new(big.Int)
	truth := func(is bool) {
		if is {
			out.SetInt64(1)
		}
	}
	switch op {
	case "add":
		out.Add(a, b)
	case "sub":
		out.Sub(a, b)
	case "sll":
		out.Lsh(a, n)
	case "slt":
		truth(sa.Cmp(sb) < 0)
	case "sltu":
		truth(a.Cmp(b) < 0)
	case "xor":
		out.Xor(a, b)
	case "srl":
		out.Rsh(a, n)
	case "sra":
		out.Rsh(sa, n)
	case "or":
		out.Or(a, b)
	case "and":
		out.And(a, b)
	case "mul":
		out.Mul(a, b)
	case "mulh":
		out.Rsh(out.Mul(sa, sb), 32)
	case "mulhsu":
		out.Rsh(out.Mul(sa, b), 32)
	case "mulhu":
		out.Rsh(out.Mul(a, b), 32)
	case "div", "divu", "rem", "remu":
		return divided(op, a, b, sa, sb)
	}
	return uint32(new(big.Int).And(out, big.NewInt(ones)).Uint64())
}

func divided(op string, a, b, sa, sb *big.Int) uint32 {
	if !strings.HasSuffix(op, "u") {
		a, b = sa, sb
	}
	q, rest := big.NewInt(-1), a
	if b.Sign() != 0 {
		q, rest = new(big.Int).QuoRem(a, b, new(big.Int))
	}
	if strings.HasPrefix(op, "div") {
		rest = q
	}
	return uint32(new(big.Int).And(rest, big.NewInt(ones)).Uint64())
}

// An instruction of any Op, whose fields may be.
func anyIns(r *rand.Rand) api.Ins {
	ops := code.Ops()
	op := ops[r.Intn(len(ops))]
	rd, r1, r2, imm := r.Intn(32), r.Intn(32), r.Intn(32), anyImm(r, op)
	if r.Intn(4) == 0 {
		r1 = 0
	}
	switch op {
	case "ecall", "ebreak", "mret", "wfi", "fence":
		return alone(op)
	case "lui", "auipc", "jal":
		return one(op, rd, imm)
	case "sb", "sh", "sw", "beq", "bne", "blt", "bge", "bltu", "bgeu":
		return pair(op, r1, r2, imm)
	case "addi", "slti", "sltiu", "xori", "ori", "andi", "slli", "srli", "srai", "lb", "lh", "lw", "lbu", "lhu", "jalr", "csrrw", "csrrs", "csrrc":
		return two(op, rd, r1, imm)
	}
	return three(op, rd, r1, r2)
}

// A word of a program: mostly an instruction, many of them stores to a device by X 6.
func anyCode(t *testing.T, r *rand.Rand) uint32 {
	switch r.Intn(24) {
	case 0:
		return r.Uint32()
	case 1, 2, 3, 4:
		return put(t, pair("sw", 6, r.Intn(32), 0))
	}
	return put(t, anyIns(r))
}

func anyImm(r *rand.Rand, op string) int32 {
	switch op {
	case "slli", "srli", "srai":
		return int32(r.Intn(32))
	case "lui", "auipc":
		return int32(r.Intn(1 << 20))
	case "jal", "beq", "bne", "blt", "bge", "bltu", "bgeu":
		return int32(r.Intn(64)-32) * 2
	case "csrrw", "csrrs", "csrrc":
		l := append(numbersOfStatus(), api.CIp, api.CCycle, api.CIp, api.CCycle, 0, 0x301, api.CGuard+16)
		return int32(l[r.Intn(len(l))])
	case "addi", "slti", "sltiu", "xori", "ori", "andi", "lb", "lh", "lw", "lbu", "lhu", "jalr", "sb", "sh", "sw":
		if r.Intn(2) == 0 {
			return int32(r.Intn(32) * 4)
		}
		return int32(r.Intn(4096) - 2048)
	}
	return 0
}

// A word of one of the sorts that matter: an address of the memory, of a device, small, any.
func anyWord(r *rand.Rand) uint32 {
	switch r.Intn(6) {
	case 0:
		return uint32(r.Intn(64) * 4)
	case 1:
		return uint32(r.Intn(270))
	case 2:
		return api.DCmp + uint32(r.Intn(6)*4)
	case 3:
		return uint32(r.Intn(8)) - 4
	case 4:
		return 1 << r.Intn(32)
	}
	return r.Uint32()
}

func anyRegs(r *rand.Rand) api.Regs {
	s := api.Regs{
		PC: uint32(r.Intn(64) * 4), User: r.Intn(2) == 0, Status: anyWord(r), Ie: anyWord(r), Tvec: uint32(r.Intn(64) * 4),
		Scratch: anyWord(r), Epc: anyWord(r), Cause: anyWord(r), Tval: anyWord(r),
	}
	if r.Intn(2) == 0 {
		s.Status, s.Ie = s.Status|8, s.Ie|0x80
	}
	if r.Intn(16) == 0 {
		s.PC = anyWord(r)
	}
	for i := 1; i < 32; i++ {
		s.X[i] = anyWord(r)
	}
	if r.Intn(2) == 0 {
		s.X[6] = devices()[r.Intn(4)] // DStop is rare: behind it a program is over
	}
	for i := range s.Guard {
		s.Guard[i] = anyWord(r)
	}
	if r.Intn(4) != 0 {
		s.Guard[0], s.Guard[1] = 0, 0x100|uint32(r.Intn(4))|1
	}
	return s
}

func same(t *testing.T, c *Core, a *reading, seed, n int) {
	t.Helper()
	if c.Regs() != a.r || c.Time() != a.time || c.Leak() != a.leak || !slices.Equal(c.Events(), a.events) {
		t.Fatalf("6.2: seed %d, step %d:\n%+v, %d, %+v, %v, not\n%+v, %d, %+v, %v", seed, n,
			c.Regs(), c.Time(), c.Leak(), c.Events(), a.r, a.time, a.leak, a.events)
	}
	if n%5 != 0 {
		return
	}
	for k, x := range all(t, c, 64) {
		if x != a.number(uint32(4*k), 4) {
			t.Fatalf("6.2: seed %d, step %d: the word %d is %#x, not %#x", seed, n, k, x, a.number(uint32(4*k), 4))
		}
	}
}

// Programs of any instructions, now and then with other registers: each step as the second reading has it.
func TestReadAgain(t *testing.T) {
	seen := map[uint32]int{}
	stops, events := 0, 0
	for seed := range 1500 {
		r := rand.New(rand.NewSource(int64(seed)))
		l := make([]uint32, 64)
		for k := range l {
			l[k] = anyCode(t, r)
		}
		late := []int{r.Intn(40) - 10, r.Intn(40) - 10, r.Intn(1000)}[:r.Intn(4)]
		c, a := made(t, l, late...), read(l, late)
		for n := range 150 {
			if n%6 == 0 {
				s := anyRegs(r)
				c.Put(s)
				a.r = s
			}
			ok := c.Step()
			if ok != a.step() {
				t.Fatalf("6.2: seed %d, step %d: %v", seed, n, ok)
			}
			same(t, c, a, seed, n)
			if !ok {
				stops++
				break
			}
			if a.r.PC == a.r.Tvec {
				seen[a.r.Cause]++
			}
		}
		events += len(a.events)
	}
	for _, cause := range []uint32{0, 1, 2, 3, 4, 5, 6, 7, 8, 11, 1<<31 + 7} {
		if seen[cause] < 20 {
			t.Errorf("cause %#x came %d times alone", cause, seen[cause])
		}
	}
	if stops < 20 || events < 20 {
		t.Error("too few stops, or events", stops, events)
	}
}

// R5: two cores of the same calls tell the same, one beside the other.
func TestSameCallsTellTheSame(t *testing.T) {
	r := rand.New(rand.NewSource(65))
	for seed := range 50 {
		l := make([]uint32, 64)
		for k := range l {
			l[k] = anyCode(t, r)
		}
		late := []int{3, -1, 7}
		c, d := made(t, l, late...), made(t, l, late...)
		s := anyRegs(r)
		c.Put(s)
		d.Put(s)
		for range 100 {
			if c.Step() != d.Step() || c.Regs() != d.Regs() || c.Time() != d.Time() || c.Leak() != d.Leak() {
				t.Fatalf("R5: seed %d: %+v, then %+v", seed, c.Regs(), d.Regs())
			}
		}
		if !slices.Equal(c.Events(), d.Events()) || !slices.Equal(all(t, c, 64), all(t, d, 64)) {
			t.Fatalf("R5: seed %d", seed)
		}
	}
}
