package core

import (
	"strings"

	"footman/api"
	"footman/code"
	"footman/csr"
	"footman/guard"
	"footman/word"
)

const (
	wordSize  = 4  // bytes of a word, and of an instruction
	upperBits = 12 // how far lui and auipc move Imm up
)

// Causes of traps. Of those of memory the number is that of no multiple; the next one is that of what can't be reached.
const (
	causeFetch    = 0
	causeWord     = 2
	causeBreak    = 3
	causeLoad     = 4
	causeStore    = 6
	causeUserCall = 8
	causeCall     = 11
	causeTimer    = 1<<31 + 7
)

// A fault is what comes in place of an instruction.
type fault struct {
	cause, val uint32
}

// An instruction is done at the time ahead of it: its cost comes last, and a fault's in place of it.
func (c *Core) instruct() {
	i, x, f := c.fetch()
	if f == nil {
		f = c.do(i, x)
	}
	if f != nil {
		c.trap(*f)
		return
	}
	c.time += costOf(shapeOf(i.Op))
}

// The instruction at PC, and its word.
func (c *Core) fetch() (api.Ins, uint32, *fault) {
	x, f := c.take(c.regs.PC, wordSize, false, api.Fetch)
	if f != nil {
		return api.Ins{}, 0, f
	}
	i, e := code.Get(x)
	if e != api.OK || c.regs.User && isKernels(i.Op) {
		return api.Ins{}, 0, &fault{causeWord, x}
	}
	return i, x, nil
}

func isKernels(op string) bool {
	switch shapeOf(op).kind {
	case back, wait, status:
		return true
	}
	return false
}

// do leaves all as it was where it tells a fault.
func (c *Core) do(i api.Ins, x uint32) *fault {
	var f *fault
	switch shapeOf(i.Op).kind {
	case plain, product, quotient:
		c.operate(i)
	case upper:
		c.upper(i)
	case load:
		f = c.load(i)
	case store:
		f = c.store(i)
	case status:
		f = c.status(i, x)
	case wait:
		c.wait()
	case branch:
		c.branch(i)
		return nil
	case jump:
		c.jump(i)
		return nil
	case back:
		c.regs = csr.Ret(c.regs)
		return nil
	case call:
		return c.call(i)
	}
	if f == nil {
		c.regs.PC += wordSize
	}
	return f
}

func (c *Core) set(rd int, x uint32) {
	if rd != 0 {
		c.regs.X[rd] = x
	}
}

func (c *Core) operate(i api.Ins) {
	name, b := i.Op, c.regs.X[i.R2]
	if shapeOf(i.Op).form == number {
		// An operation with Imm is named as that of two registers is, but for an i.
		name, b = strings.Replace(i.Op, "i", "", 1), uint32(i.Imm)
	}
	x, _ := word.Op(name, c.regs.X[i.R1], b)
	c.set(i.Rd, x)
}

func (c *Core) upper(i api.Ins) {
	x := uint32(i.Imm) << upperBits
	if i.Op == "auipc" {
		x += c.regs.PC
	}
	c.set(i.Rd, x)
}

func (c *Core) branch(i api.Ins) {
	by := uint32(wordSize)
	if holds(i.Op, c.regs.X[i.R1], c.regs.X[i.R2]) {
		by = uint32(i.Imm)
	}
	c.regs.PC += by
}

func holds(op string, a, b uint32) bool {
	switch op {
	case "beq":
		return a == b
	case "bne":
		return a != b
	case "blt":
		return int32(a) < int32(b)
	case "bge":
		return int32(a) >= int32(b)
	case "bltu":
		return a < b
	}
	return a >= b
}

// Where it goes is taken ahead of Rd: R1 may be the same register.
func (c *Core) jump(i api.Ins) {
	to := c.regs.PC + uint32(i.Imm)
	if i.Op == "jalr" {
		to = (c.regs.X[i.R1] + uint32(i.Imm)) &^ 1
	}
	c.set(i.Rd, c.regs.PC+wordSize)
	c.regs.PC = to
}

// R1 itself tells whether there is something to write, not what it has: so a fault does not hang on that.
func (c *Core) status(i api.Ins, x uint32) *fault {
	old, e := csr.Read(c.regs, int(i.Imm), c.time, c.due())
	if e != api.OK {
		return &fault{causeWord, x}
	}
	r := c.regs
	if i.Op == "csrrw" || i.R1 != 0 {
		r, e = csr.Write(r, int(i.Imm), written(i.Op, old, c.regs.X[i.R1]))
		if e != api.OK {
			return &fault{causeWord, x}
		}
	}
	c.regs = r
	c.set(i.Rd, old)
	return nil
}

func written(op string, old, x uint32) uint32 {
	switch op {
	case "csrrs":
		return old | x
	case "csrrc":
		return old &^ x
	}
	return x
}

func (c *Core) wait() {
	if c.timed {
		c.time = max(c.time, c.timer)
	}
}

func (c *Core) call(i api.Ins) *fault {
	if i.Op == "ebreak" {
		return &fault{causeBreak, c.regs.PC}
	}
	if c.regs.User {
		return &fault{causeUserCall, 0}
	}
	return &fault{causeCall, 0}
}

func (c *Core) load(i api.Ins) *fault {
	at := c.regs.X[i.R1] + uint32(i.Imm)
	c.leak.At = at
	x, f := c.take(at, sizeOf(i.Op), i.Op == "lb" || i.Op == "lh", api.Read)
	if f == nil {
		c.set(i.Rd, x)
	}
	return f
}

func (c *Core) store(i api.Ins) *fault {
	at, size := c.regs.X[i.R1]+uint32(i.Imm), sizeOf(i.Op)
	c.leak.At = at
	if f := c.barred(at, size, api.Write); f != nil {
		return f
	}
	x := c.regs.X[i.R2]
	if !c.regs.User && size == wordSize && c.tell(at, x) {
		return nil
	}
	if e := c.mem.Store(at, size, x); e != api.OK {
		return unreached(at, api.Write)
	}
	return nil
}

// tell gives x to the device at at; false: there is none.
func (c *Core) tell(at, x uint32) bool {
	switch at {
	case api.DCmp:
		c.timed = true
		c.timer = c.time + costOf(shape{store, number}) + int(x)
	case api.DTask:
		c.say.Task = int(x)
	case api.DKind:
		c.say.Kind = int(x)
	case api.DSay:
		c.events = append(c.events, api.Event{Task: c.say.Task, Kind: c.say.Kind, N: x})
	case api.DStop:
		c.stopped = true
	default:
		return false
	}
	return true
}

func sizeOf(op string) int {
	switch op {
	case "lb", "lbu", "sb":
		return 1
	case "lh", "lhu", "sh":
		return 2
	}
	return wordSize
}

// take is what the memory has at at, for whoever asks for it so.
func (c *Core) take(at uint32, size int, sign bool, how int) (uint32, *fault) {
	if f := c.barred(at, size, how); f != nil {
		return 0, f
	}
	x, e := c.mem.Load(at, size, sign)
	if e != api.OK {
		return 0, unreached(at, how)
	}
	return x, nil
}

// barred is the fault of an address that may not be asked for, be there memory or not; nil: it may.
func (c *Core) barred(at uint32, size int, how int) *fault {
	if at%uint32(size) != 0 {
		return &fault{causeOf(how), at}
	}
	if c.regs.User && !guard.Allow(guard.Of(c.regs.Guard), at, uint32(size), how) {
		return unreached(at, how)
	}
	return nil
}

func unreached(at uint32, how int) *fault {
	return &fault{causeOf(how) + 1, at}
}

func causeOf(how int) uint32 {
	switch how {
	case api.Read:
		return causeLoad
	case api.Write:
		return causeStore
	}
	return causeFetch
}
