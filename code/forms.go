package code

import "footman/word"

// How the fields of an instruction lie in its word.
type layout int

const (
	registers layout = iota // of Rd, R1, R2
	immediate               // of Rd, R1, Imm with a sign
	shift                   // of Rd, R1, Imm that counts places
	store                   // of R1, R2, Imm with a sign
	branch                  // of R1, R2, Imm even
	upper                   // of Rd, Imm without a sign
	jump                    // of Rd, Imm even
	status                  // of Rd, R1, Imm without a sign
	bare                    // of no fields
)

// Opcodes: the lowest 7 bits of a word.
const (
	opLoad      = 3
	opFence     = 15
	opImmediate = 19
	opAuipc     = 23
	opStore     = 35
	opRegisters = 51
	opLui       = 55
	opBranch    = 99
	opJalr      = 103
	opJal       = 111
	opSystem    = 115
)

// A form is an Op with what is fixed in its word. Of a bare one the whole word is its opcode.
type form struct {
	op     string
	layout layout
	opcode uint32
	f, g   uint32
}

// A key is the opcode, g and f of a form; what a form has not is 0 in it.
type key [3]uint32

// How many forms there are.
const formCount = 53

// The list is a literal in here, in the order that Ops tells; as an array it needs no memory of its own in each call.
func forms() [formCount]form {
	return [formCount]form{
		{"add", registers, opRegisters, 0, 0}, {"sub", registers, opRegisters, 32, 0},
		{"sll", registers, opRegisters, 0, 1}, {"slt", registers, opRegisters, 0, 2},
		{"sltu", registers, opRegisters, 0, 3}, {"xor", registers, opRegisters, 0, 4},
		{"srl", registers, opRegisters, 0, 5}, {"sra", registers, opRegisters, 32, 5},
		{"or", registers, opRegisters, 0, 6}, {"and", registers, opRegisters, 0, 7},
		{"mul", registers, opRegisters, 1, 0}, {"mulh", registers, opRegisters, 1, 1},
		{"mulhsu", registers, opRegisters, 1, 2}, {"mulhu", registers, opRegisters, 1, 3},
		{"div", registers, opRegisters, 1, 4}, {"divu", registers, opRegisters, 1, 5},
		{"rem", registers, opRegisters, 1, 6}, {"remu", registers, opRegisters, 1, 7},
		{"addi", immediate, opImmediate, 0, 0}, {"slti", immediate, opImmediate, 0, 2},
		{"sltiu", immediate, opImmediate, 0, 3}, {"xori", immediate, opImmediate, 0, 4},
		{"ori", immediate, opImmediate, 0, 6}, {"andi", immediate, opImmediate, 0, 7},
		{"slli", shift, opImmediate, 0, 1}, {"srli", shift, opImmediate, 0, 5},
		{"srai", shift, opImmediate, 32, 5},
		{"lb", immediate, opLoad, 0, 0}, {"lh", immediate, opLoad, 0, 1},
		{"lw", immediate, opLoad, 0, 2}, {"lbu", immediate, opLoad, 0, 4},
		{"lhu", immediate, opLoad, 0, 5}, {"jalr", immediate, opJalr, 0, 0},
		{"sb", store, opStore, 0, 0}, {"sh", store, opStore, 0, 1}, {"sw", store, opStore, 0, 2},
		{"beq", branch, opBranch, 0, 0}, {"bne", branch, opBranch, 0, 1},
		{"blt", branch, opBranch, 0, 4}, {"bge", branch, opBranch, 0, 5},
		{"bltu", branch, opBranch, 0, 6}, {"bgeu", branch, opBranch, 0, 7},
		{"lui", upper, opLui, 0, 0}, {"auipc", upper, opAuipc, 0, 0}, {"jal", jump, opJal, 0, 0},
		{"csrrw", status, opSystem, 0, 1}, {"csrrs", status, opSystem, 0, 2},
		{"csrrc", status, opSystem, 0, 3},
		{"ecall", bare, 115, 0, 0}, {"ebreak", bare, 1048691, 0, 0}, {"mret", bare, 807403635, 0, 0},
		{"wfi", bare, 273678451, 0, 0}, {"fence", bare, 15, 0, 0},
	}
}

func formOf(op string) (form, bool) {
	for _, f := range forms() {
		if f.op == op {
			return f, true
		}
	}
	return form{}, false
}

func formIn(x uint32) (form, bool) {
	k := keyIn(x)
	f, ok := formsWith(k[0])[k]
	return f, ok
}

// Forms of one opcode alone are laid down: no key of another opcode is ever asked for beside them.
func formsWith(opcode uint32) map[key]form {
	m := make(map[key]form)
	for _, f := range forms() {
		if f.opcode == opcode {
			m[key{f.opcode, f.g, f.f}] = f
		}
	}
	return m
}

// Where a layout has a field in place of g or f, these bits of the word count for nothing.
func keyIn(x uint32) key {
	opcode, g, f := word.Bits(x, 0, 7), word.Bits(x, 12, 3), word.Bits(x, 25, 7)
	switch opcode {
	case opRegisters:
		return key{opcode, g, f}
	case opImmediate:
		if g == 1 || g == 5 {
			return key{opcode, g, f}
		}
	case opLui, opAuipc, opJal:
		return key{opcode, 0, 0}
	case opFence:
		return key{x, 0, 0}
	case opSystem:
		if g == 0 {
			return key{x, 0, 0}
		}
	}
	return key{opcode, g, 0}
}
