package word

import (
	"math"
	"math/big"
	"slices"
	"testing"

	"footman/api"
)

const (
	top = 1 << 31
	all = 1<<32 - 1
)

// Words at and beside every edge that the chapter names, and some in between.
var samples = []uint32{
	0, 1, 2, 3, 5, 7, 10, 30, 31, 32, 33, 63, 64, 100, 0x7fff, 0x8000, 0xffff, 0x10000, 0x12345678,
	1 << 30, top - 2, top - 1, top, top + 1, top + 7, 0x89abcdef, 0xc0000000, all - 99, all - 31, all - 6, all - 2, all - 1, all,
}

var allNames = []string{
	"add", "sub", "sll", "slt", "sltu", "xor", "srl", "sra", "or", "and",
	"mul", "mulh", "mulhsu", "mulhu", "div", "divu", "rem", "remu",
}

// op is Op of a name that there is.
func op(t *testing.T, name string, a, b uint32) uint32 {
	t.Helper()
	x, e := Op(name, a, b)
	if e != api.OK {
		t.Fatalf("Op(%q, %#x, %#x): error %d", name, a, b, e)
	}
	return x
}

func unsignedBig(x uint32) *big.Int {
	return new(big.Int).SetUint64(uint64(x))
}

// signedBig counts the top bit as -2^31, with no conversion of integer kinds in it.
func signedBig(x uint32) *big.Int {
	n := unsignedBig(x)
	if n.Bit(31) == 1 {
		n.Sub(n, big.NewInt(1<<32))
	}
	return n
}

// modulo is the word of n modulo 2^32.
func modulo(n *big.Int) uint32 {
	return uint32(new(big.Int).Mod(n, big.NewInt(1<<32)).Uint64())
}

// floor is n by 2^k, towards the number below.
func floor(n *big.Int, k uint) *big.Int {
	return new(big.Int).Rsh(n, k)
}

func one(holds bool) uint32 {
	if holds {
		return 1
	}
	return 0
}

// want is what 1.1 says of a name, over numbers without bound.
func want(name string, a, b uint32) uint32 {
	ua, ub, sa, sb := unsignedBig(a), unsignedBig(b), signedBig(a), signedBig(b)
	r := new(big.Int)
	k := uint(b % 32)
	switch name {
	case "add":
		return modulo(r.Add(ua, ub))
	case "sub":
		return modulo(r.Sub(ua, ub))
	case "mul":
		return modulo(r.Mul(ua, ub))
	case "sll":
		return modulo(r.Lsh(ua, k))
	case "srl":
		return modulo(floor(ua, k))
	case "sra":
		return modulo(floor(sa, k))
	case "slt":
		return one(sa.Cmp(sb) < 0)
	case "sltu":
		return one(ua.Cmp(ub) < 0)
	case "xor":
		return modulo(r.Xor(ua, ub))
	case "or":
		return modulo(r.Or(ua, ub))
	case "and":
		return modulo(r.And(ua, ub))
	case "mulh":
		return modulo(floor(r.Mul(sa, sb), 32))
	case "mulhu":
		return modulo(floor(r.Mul(ua, ub), 32))
	case "mulhsu":
		return modulo(floor(r.Mul(sa, ub), 32))
	}
	return wantDivision(name, a, b)
}

func wantDivision(name string, a, b uint32) uint32 {
	r := new(big.Int)
	isQuotient := name == "div" || name == "divu"
	hasSign := name == "div" || name == "rem"
	switch {
	case b == 0 && isQuotient:
		return all
	case b == 0:
		return a
	case a == top && b == all && hasSign && isQuotient:
		return a
	case a == top && b == all && hasSign:
		return 0
	}
	switch name {
	case "div":
		return modulo(r.Quo(signedBig(a), signedBig(b)))
	case "rem":
		return modulo(r.Rem(signedBig(a), signedBig(b)))
	case "divu":
		return modulo(r.Quo(unsignedBig(a), unsignedBig(b)))
	}
	return modulo(r.Rem(unsignedBig(a), unsignedBig(b)))
}

func TestNames(t *testing.T) {
	if got := Names(); !slices.Equal(got, allNames) {
		t.Errorf("1.1: Names() = %v", got)
	}
	for _, name := range Names() {
		if _, e := Op(name, 3, 2); e != api.OK {
			t.Errorf("1.1: Op does not know %q", name)
		}
	}
}

func TestNamesAreNewMemory(t *testing.T) {
	first, second := Names(), Names()
	for i := range first {
		first[i] = "spoilt"
	}
	_ = append(first, "more")
	if !slices.Equal(second, allNames) || !slices.Equal(Names(), allNames) {
		t.Error("R3: writing into what Names told changed another answer")
	}
}

func TestOpAgainstNumbersWithoutBound(t *testing.T) {
	for _, name := range allNames {
		for _, a := range samples {
			for _, b := range samples {
				if got, w := op(t, name, a, b), want(name, a, b); got != w {
					t.Errorf("1.1: Op(%q, %#x, %#x) = %#x, not %#x", name, a, b, got, w)
				}
			}
		}
	}
}

// The edges once more as plain numbers: they hold even if want were wrong.
func TestOpByHand(t *testing.T) {
	for _, c := range []struct {
		name       string
		a, b, want uint32
	}{
		{"add", 3, 4, 7}, {"add", all, 1, 0}, {"sub", 0, 1, all}, {"mul", 7, 6, 42}, {"mul", all, all, 1},
		{"sll", 1, 31, top}, {"sll", 5, 32, 5}, {"sll", 5, 33, 10}, {"sll", 5, all, top},
		{"srl", top, 31, 1}, {"srl", top, 32, top}, {"srl", top, 33, 1 << 30}, {"srl", all, all, 1},
		{"sra", top, 31, all}, {"sra", top, 32, top}, {"sra", top, 33, 0xc0000000}, {"sra", top - 1, 30, 1},
		{"slt", all, 0, 1}, {"slt", top, top - 1, 1}, {"slt", top - 1, top, 0}, {"slt", 9, 9, 0},
		{"sltu", all, 0, 0}, {"sltu", top - 1, top, 1}, {"sltu", 9, 9, 0},
		{"xor", 12, 10, 6}, {"or", 12, 10, 14}, {"and", 12, 10, 8},
		{"mulh", all, all, 0}, {"mulh", all, 1, all}, {"mulh", top, top, 1 << 30},
		{"mulhu", all, all, all - 1}, {"mulhu", all, 1, 0}, {"mulhu", top, top, 1 << 30},
		{"mulhsu", all, all, all}, {"mulhsu", all, 1, all}, {"mulhsu", 1, all, 0}, {"mulhsu", top, all, top},
		{"div", 7, 2, 3}, {"div", all - 6, 2, all - 2}, {"div", 7, all - 1, all - 2}, {"div", all - 6, all - 1, 3},
		{"rem", 7, 2, 1}, {"rem", all - 6, 2, all}, {"rem", 7, all - 1, 1}, {"rem", all - 6, all - 1, all},
		{"div", 0, 0, all}, {"div", 5, 0, all}, {"div", all, 0, all}, {"div", top, 0, all},
		{"rem", 0, 0, 0}, {"rem", 5, 0, 5}, {"rem", all, 0, all}, {"rem", top, 0, top},
		{"divu", 0, 0, all}, {"divu", 5, 0, all}, {"divu", all, 10, 429496729},
		{"remu", 0, 0, 0}, {"remu", 5, 0, 5}, {"remu", all, 10, 5},
		{"div", top, all, top}, {"rem", top, all, 0}, {"divu", top, all, 0}, {"remu", top, all, top},
	} {
		if got := op(t, c.name, c.a, c.b); got != c.want {
			t.Errorf("1.1: Op(%q, %#x, %#x) = %#x, not %#x", c.name, c.a, c.b, got, c.want)
		}
	}
}

func TestOpOfAnotherName(t *testing.T) {
	for _, name := range []string{
		"", " ", "addi", "ADD", "Add", "add ", " add", "add\x00", "ad", "subu", "slli", "sltiu", "sll\n", "nor", "not",
		"mulu", "mulhus", "mulhss", "divs", "rems", "\xff", "add,sub",
	} {
		if x, e := Op(name, 6, 3); x != 0 || e != api.ErrArg {
			t.Errorf("1.1: Op(%q, 6, 3) = %#x, %d, not 0, ErrArg", name, x, e)
		}
	}
}

// wantSext counts bit by bit: the top one of the n counts as less.
func wantSext(x uint32, n int) uint32 {
	sum := new(big.Int)
	for i := range n {
		value := new(big.Int).Lsh(big.NewInt(int64(x>>i&1)), uint(i))
		if i == n-1 {
			value.Neg(value)
		}
		sum.Add(sum, value)
	}
	return modulo(sum)
}

func TestSext(t *testing.T) {
	for _, x := range samples {
		for n := 1; n <= 32; n++ {
			if got, w := Sext(x, n), wantSext(x, n); got != w {
				t.Errorf("1.2: Sext(%#x, %d) = %#x, not %#x", x, n, got, w)
			}
		}
	}
	for _, c := range []struct {
		x    uint32
		n    int
		want uint32
	}{
		{0x80, 8, 0xffffff80}, {0x7f, 8, 0x7f}, {0x17f, 8, 0x7f}, {0x180, 8, 0xffffff80}, {0x800, 12, 0xfffff800},
		{1, 1, all}, {2, 1, 0}, {top, 32, top}, {all, 32, all}, {top, 31, 0}, {1 << 30, 31, 0xc0000000},
	} {
		if got := Sext(c.x, c.n); got != c.want {
			t.Errorf("1.2: Sext(%#x, %d) = %#x, not %#x", c.x, c.n, got, c.want)
		}
	}
}

func TestSextOutOfBounds(t *testing.T) {
	for _, n := range []int{math.MinInt, math.MinInt + 1, -1 << 32, -33, -32, -31, -1, 0, 33, 34, 63, 64, 65, 1<<32 + 8, math.MaxInt} {
		for _, x := range samples {
			if got := Sext(x, n); got != 0 {
				t.Errorf("1.2: Sext(%#x, %d) = %#x, not 0", x, n, got)
			}
		}
	}
}

// wantBits lays the bits one by one.
func wantBits(x uint32, lo, n int) uint32 {
	var sum uint32
	for i := range n {
		sum |= (x >> (lo + i) & 1) << i
	}
	return sum
}

func TestBits(t *testing.T) {
	for _, x := range samples {
		for lo := 0; lo <= 31; lo++ {
			for n := 1; n <= 32-lo; n++ {
				if got, w := Bits(x, lo, n), wantBits(x, lo, n); got != w {
					t.Errorf("1.2: Bits(%#x, %d, %d) = %#x, not %#x", x, lo, n, got, w)
				}
			}
		}
	}
	for _, c := range []struct {
		x     uint32
		lo, n int
		want  uint32
	}{
		{0xabcd1234, 0, 32, 0xabcd1234}, {0xabcd1234, 0, 1, 0}, {0xabcd1234, 4, 8, 0x23}, {0xabcd1234, 16, 16, 0xabcd},
		{0xabcd1234, 31, 1, 1}, {0xabcd1234, 1, 31, 0x55e6891a},
	} {
		if got := Bits(c.x, c.lo, c.n); got != c.want {
			t.Errorf("1.2: Bits(%#x, %d, %d) = %#x, not %#x", c.x, c.lo, c.n, got, c.want)
		}
	}
}

func TestBitsOutOfBounds(t *testing.T) {
	wrong := []int{math.MinInt, math.MinInt + 32, -1 << 32, -33, -32, -1, 33, 64, 1 << 32, math.MaxInt - 31, math.MaxInt}
	check := func(lo, n int) {
		t.Helper()
		if got := Bits(all, lo, n); got != 0 {
			t.Errorf("1.2: Bits(%#x, %d, %d) = %#x, not 0", uint32(all), lo, n, got)
		}
	}
	for lo := 0; lo <= 31; lo++ {
		check(lo, 0)
		check(lo, 33-lo)
		for _, n := range wrong {
			check(lo, n)
		}
	}
	for _, lo := range append(wrong, 32) {
		for n := -1; n <= 33; n++ {
			check(lo, n)
		}
		for _, n := range wrong {
			check(lo, n)
		}
	}
}

func TestQuotientTimesDivisorAndRestIsDividend(t *testing.T) {
	for _, names := range [][2]string{{"div", "rem"}, {"divu", "remu"}} {
		for _, a := range samples {
			for _, b := range samples {
				q, r := op(t, names[0], a, b), op(t, names[1], a, b)
				if op(t, "add", op(t, "mul", q, b), r) != a {
					t.Errorf("1.3: %v of %#x, %#x: quotient %#x, rest %#x", names, a, b, q, r)
				}
			}
		}
	}
}
