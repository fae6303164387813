// Package word: see DOC.md, chapter 1.
package word

import "footman/api"

// Width of a word, in bits.
const width = 32

// What a division by 0 answers as its quotient: 2^32 less 1.
const noQuotient = 1<<width - 1

// Names tells the names that Op knows. The list is a literal in here, so that each answer is memory of its own.
func Names() []string {
	return []string{
		"add", "sub", "sll", "slt", "sltu", "xor", "srl", "sra", "or", "and",
		"mul", "mulh", "mulhsu", "mulhu", "div", "divu", "rem", "remu",
	}
}

// Op is the operation of that name on a and b; ErrArg: there is no such name.
func Op(name string, a, b uint32) (uint32, api.Errno) {
	switch name {
	case "add":
		return a + b, api.OK
	case "sub":
		return a - b, api.OK
	case "sll":
		return a << (b % width), api.OK
	case "slt":
		return truth(int32(a) < int32(b)), api.OK
	case "sltu":
		return truth(a < b), api.OK
	case "xor":
		return a ^ b, api.OK
	case "srl":
		return a >> (b % width), api.OK
	case "sra":
		return uint32(int32(a) >> (b % width)), api.OK
	case "or":
		return a | b, api.OK
	case "and":
		return a & b, api.OK
	case "mul":
		return a * b, api.OK
	case "mulh":
		return upper(uint64(signed(a) * signed(b))), api.OK
	case "mulhsu":
		return upper(uint64(signed(a) * int64(b))), api.OK
	case "mulhu":
		return upper(uint64(a) * uint64(b)), api.OK
	case "div":
		return quotient(a, b), api.OK
	case "divu":
		return quotientUnsigned(a, b), api.OK
	case "rem":
		return rest(a, b), api.OK
	case "remu":
		return restUnsigned(a, b), api.OK
	}
	return 0, api.ErrArg
}

// Sext is the lowest n bits of x as a number with a sign; 0 where n is not from 1 to 32.
func Sext(x uint32, n int) uint32 {
	if n < 1 || n > width {
		return 0
	}
	// The shift up makes the number's top bit the word's: the shift down then brings it along.
	spare := width - n
	return uint32(int32(x<<spare) >> spare)
}

// Bits is n bits of x from the bit lo on; 0 where lo is not from 0 to 31, or n not from 1 to 32 less lo.
func Bits(x uint32, lo, n int) uint32 {
	// lo is held to its bounds first: only then can width less lo not wrap round.
	if lo < 0 || lo >= width || n < 1 || n > width-lo {
		return 0
	}
	return x << (width - lo - n) >> (width - n)
}

func truth(holds bool) uint32 {
	if holds {
		return 1
	}
	return 0
}

// The number with a sign that x stands for, with room for a product or a quotient of two of them.
func signed(x uint32) int64 {
	return int64(int32(x))
}

func upper(product uint64) uint32 {
	return uint32(product >> width)
}

// In 64 bits -2^31 by -1 is 2^31, whose lowest 32 bits are those of -2^31: that edge needs no case.
func quotient(a, b uint32) uint32 {
	if b == 0 {
		return noQuotient
	}
	return uint32(signed(a) / signed(b))
}

func quotientUnsigned(a, b uint32) uint32 {
	if b == 0 {
		return noQuotient
	}
	return a / b
}

func rest(a, b uint32) uint32 {
	if b == 0 {
		return a
	}
	return uint32(signed(a) % signed(b))
}

func restUnsigned(a, b uint32) uint32 {
	if b == 0 {
		return a
	}
	return a % b
}
