package core

// What an instruction does.
type kind int

const (
	plain kind = iota + 1 // an operation on words
	product
	quotient
	upper
	load
	store
	branch
	jump
	status // reads a status register, and writes it
	back   // from a trap
	wait
	fence
	call // a trap, of the instruction itself
)

// Where it takes its last operand from.
type form int

const (
	bare     form = iota + 1 // from nowhere
	register                 // from a register
	number                   // from Imm
)

// A shape is all of an instruction that its cost hangs on: what registers have is no part of it.
type shape struct {
	kind kind
	form form
}

func costOf(s shape) int {
	return costs(s.form)[s]
}

// Each form's costs are laid down apart: a step makes no more of them than it may ask for.
func costs(f form) map[shape]int {
	switch f {
	case register:
		return map[shape]int{
			{plain, register}:    1,
			{product, register}:  3,
			{quotient, register}: 20,
			{branch, register}:   2,
			{status, register}:   1,
		}
	case number:
		return map[shape]int{
			{plain, number}: 1,
			{upper, number}: 1,
			{load, number}:  2,
			{store, number}: 2,
			{jump, number}:  2,
		}
	}
	return map[shape]int{
		{back, bare}:  4,
		{wait, bare}:  1,
		{fence, bare}: 1,
		{call, bare}:  4,
	}
}

// The shape of an Op that an instruction has: what isn't named below is an operation on two registers.
func shapeOf(op string) shape {
	switch op {
	case "mul", "mulh", "mulhsu", "mulhu":
		return shape{product, register}
	case "div", "divu", "rem", "remu":
		return shape{quotient, register}
	case "addi", "slti", "sltiu", "xori", "ori", "andi", "slli", "srli", "srai":
		return shape{plain, number}
	case "lui", "auipc":
		return shape{upper, number}
	case "lb", "lh", "lw", "lbu", "lhu":
		return shape{load, number}
	case "sb", "sh", "sw":
		return shape{store, number}
	case "beq", "bne", "blt", "bge", "bltu", "bgeu":
		return shape{branch, register}
	case "jal", "jalr":
		return shape{jump, number}
	case "csrrw", "csrrs", "csrrc":
		return shape{status, register}
	case "mret":
		return shape{back, bare}
	case "wfi":
		return shape{wait, bare}
	case "fence":
		return shape{fence, bare}
	case "ecall", "ebreak":
		return shape{call, bare}
	}
	return shape{plain, register}
}
