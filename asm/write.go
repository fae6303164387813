package asm

import (
	"footman/api"
	"footman/code"
	"footman/word"
)

// The lowest bits of a number are those of addi's Imm, the others those of lui's.
const (
	lowBits  = 12
	highBits = 20
)

// A writer writes the items of a program one behind the other.
type writer struct {
	*program
	starts []int
	words  []uint32
	syms   []api.Sym
}

// write asks for items that are right, with their far ones found.
func (p *program) write() ([]uint32, []api.Sym) {
	w := writer{program: p, starts: p.starts()}
	for at := range p.items {
		w.item(at)
	}
	return w.words, w.syms
}

func (w *writer) item(at int) {
	x := w.items[at]
	switch x.Kind {
	case api.ALabel:
		w.syms = append(w.syms, api.Sym{Name: x.Name, At: w.address(x.Name)})
	case api.AIns:
		w.put(x.Ins)
	case api.ABranch:
		w.branch(x, w.isFar(at))
	case api.AJump:
		w.jump(x.Ins.Rd, x.Name)
	case api.ALoad:
		w.load(x.Ins.Rd, x.N)
	case api.AAddr:
		w.loadLong(x.Ins.Rd, w.address(x.Name))
	case api.AWords:
		w.words = append(w.words, x.Words...)
	case api.ASpace:
		w.words = append(w.words, make([]uint32, x.N)...)
	}
}

func (w *writer) put(i api.Ins) {
	x, _ := code.Put(i)
	w.words = append(w.words, x)
}

func (w *writer) branch(x api.Item, far bool) {
	i := x.Ins
	if !far {
		i.Imm = w.distance(x.Name)
		w.put(i)
		return
	}
	i.Op = turned(i.Op)
	i.Imm = 2 * wordBytes
	w.put(i)
	w.jump(0, x.Name)
}

func (w *writer) jump(rd int, name string) {
	w.put(api.Ins{Op: "jal", Rd: rd, Imm: w.distance(name)})
}

func (w *writer) load(rd int, n uint32) {
	if isShort(n) {
		w.put(api.Ins{Op: "addi", Rd: rd, Imm: int32(n)})
		return
	}
	w.loadLong(rd, n)
}

// addi's Imm has a sign: lui's makes up for what it takes away.
func (w *writer) loadLong(rd int, n uint32) {
	low := word.Sext(n, lowBits)
	high := word.Bits(n-low, lowBits, highBits)
	w.put(api.Ins{Op: "lui", Rd: rd, Imm: int32(high)})
	w.put(api.Ins{Op: "addi", Rd: rd, R1: rd, Imm: int32(low)})
}

// isShort tells whether addi alone makes n.
func isShort(n uint32) bool {
	return word.Sext(n, lowBits) == n
}

func (w *writer) address(name string) uint32 {
	return w.base + wordBytes*uint32(w.starts[w.labels[name]])
}

// distance is how far a label is from the next word that is written; addresses wrap round, and it with them.
func (w *writer) distance(name string) int32 {
	here := w.base + wordBytes*uint32(len(w.words))
	return int32(w.address(name) - here)
}

// turned is the branch that leads on where op stays, and stays where op leads on; of no branch there is none.
func turned(op string) string {
	switch op {
	case "beq":
		return "bne"
	case "bne":
		return "beq"
	case "blt":
		return "bge"
	case "bge":
		return "blt"
	case "bltu":
		return "bgeu"
	case "bgeu":
		return "bltu"
	}
	return ""
}
