package code

import (
	"maps"
	"math"
	"math/rand"
	"slices"
	"strconv"
	"strings"
	"testing"

	"footman/api"
)

// A kind is written as the chapter writes it: its Ops with what is fixed, the bounds of its Imm, the word's fields from the highest.
// A field of the word: a name (Imm with its highest and lowest bit) or a number, and how many bits it has.
type kind struct {
	ops       string // each with its f (or o, or whole word) and its g behind it
	fields    string // of an Ins
	low, high int64
	even      bool
	word      string
}

var kinds = []kind{
	{"add 0 0, sub 32 0, sll 0 1, slt 0 2, sltu 0 3, xor 0 4, srl 0 5, sra 32 5, or 0 6, and 0 7, mul 1 0, mulh 1 1, mulhsu 1 2, mulhu 1 3, div 1 4, divu 1 5, rem 1 6, remu 1 7", "Rd R1 R2", 0, 0, false, "f 7, R2 5, R1 5, g 3, Rd 5, 51 7"},
	{"addi 0 0, slti 0 2, sltiu 0 3, xori 0 4, ori 0 6, andi 0 7", "Rd R1 Imm", -2048, 2047, false, "Imm:11:0 12, R1 5, g 3, Rd 5, 19 7"},
	{"slli 0 1, srli 0 5, srai 32 5", "Rd R1 Imm", 0, 31, false, "f 7, Imm:4:0 5, R1 5, g 3, Rd 5, 19 7"},
	{"lb 0 0, lh 0 1, lw 0 2, lbu 0 4, lhu 0 5", "Rd R1 Imm", -2048, 2047, false, "Imm:11:0 12, R1 5, g 3, Rd 5, 3 7"},
	{"jalr 0 0", "Rd R1 Imm", -2048, 2047, false, "Imm:11:0 12, R1 5, g 3, Rd 5, 103 7"},
	{"sb 0 0, sh 0 1, sw 0 2", "R1 R2 Imm", -2048, 2047, false, "Imm:11:5 7, R2 5, R1 5, g 3, Imm:4:0 5, 35 7"},
	{"beq 0 0, bne 0 1, blt 0 4, bge 0 5, bltu 0 6, bgeu 0 7", "R1 R2 Imm", -4096, 4094, true, "Imm:12:12 1, Imm:10:5 6, R2 5, R1 5, g 3, Imm:4:1 4, Imm:11:11 1, 99 7"},
	{"lui 55 0, auipc 23 0", "Rd Imm", 0, 1<<20 - 1, false, "Imm:19:0 20, Rd 5, f 7"},
	{"jal 0 0", "Rd Imm", -1 << 20, 1<<20 - 2, true, "Imm:20:20 1, Imm:10:1 10, Imm:11:11 1, Imm:19:12 8, Rd 5, 111 7"},
	{"csrrw 0 1, csrrs 0 2, csrrc 0 3", "Rd R1 Imm", 0, 4095, false, "Imm:11:0 12, R1 5, g 3, Rd 5, 115 7"},
	{"ecall 115 0, ebreak 1048691 0, mret 807403635 0, wfi 273678451 0, fence 15 0", "", 0, 0, false, "f 32"},
}

// One Op with its kind.
type row struct {
	kind
	op   string
	f, g int64
}

func rows() []row {
	var l []row
	for _, k := range kinds {
		for _, s := range strings.Split(k.ops, ", ") {
			p := strings.Fields(s)
			l = append(l, row{k, p[0], number(p[1]), number(p[2])})
		}
	}
	return l
}

func number(s string) int64 {
	n, err := strconv.ParseInt(s, 10, 64)
	if err != nil {
		panic(err)
	}
	return n
}

func (r row) has(field string) bool {
	return slices.Contains(strings.Fields(r.fields), field)
}

// digits is n modulo 2^bits, as a text of noughts and ones.
func digits(n int64, bits int) string {
	var s strings.Builder
	for k := bits - 1; k >= 0; k-- {
		// The floor by 2^k, and its rest of 2: no shift and no integer kind of the package's own ways.
		q := int64(math.Floor(float64(n) / math.Pow(2, float64(k))))
		s.WriteString(strconv.FormatInt((q%2+2)%2, 10))
	}
	return s.String()
}

// text is the word of i, digit by digit; where open is so each field of i stands as x.
func (r row) text(i api.Ins, open bool) string {
	values := map[string]int64{"Rd": int64(i.Rd), "R1": int64(i.R1), "R2": int64(i.R2)}
	var s strings.Builder
	for _, f := range strings.Split(r.word, ", ") {
		p := strings.Fields(f)
		bits := int(number(p[1]))
		part, of, isImm := strings.Cut(p[0], ":")
		value, isField := values[part]
		switch {
		case open && (isImm || isField):
			s.WriteString(strings.Repeat("x", bits))
		case isImm:
			high, low, _ := strings.Cut(of, ":")
			d := digits(int64(i.Imm), 32)
			s.WriteString(d[31-number(high) : 32-number(low)])
		case isField:
			s.WriteString(digits(value, bits))
		case part == "f":
			s.WriteString(digits(r.f, bits))
		case part == "g":
			s.WriteString(digits(r.g, bits))
		default:
			s.WriteString(digits(number(part), bits))
		}
	}
	return s.String()
}

func (r row) want(i api.Ins) uint32 {
	n, err := strconv.ParseUint(r.text(i, false), 2, 32)
	if err != nil {
		panic(err)
	}
	return uint32(n)
}

// fixed tells which bits of a word of r stand fast, and what they are.
func (r row) fixed() (mask, value uint32) {
	for _, d := range r.text(api.Ins{}, true) {
		mask, value = mask*2, value*2
		if d != 'x' {
			mask++
		}
		if d == '1' {
			value++
		}
	}
	return mask, value
}

func (r row) may(i api.Ins) bool {
	registers := func(name string, n int) bool { return n == 0 || r.has(name) && n > 0 && n < 32 }
	imm := int64(i.Imm)
	return registers("Rd", i.Rd) && registers("R1", i.R1) && registers("R2", i.R2) &&
		imm >= r.low && imm <= r.high && !(r.even && imm%2 != 0)
}

// imms are Imm at, beside and between the bounds of every kind, and each of its bits alone.
func imms() []int32 {
	l := []int32{0, 1, 2, 3, 4, 30, 31, 32, 33, 0x555, 0xaaa, 0x12345, 0xabcde, -3, -2, -1, math.MinInt32, math.MaxInt32}
	for _, k := range kinds {
		for d := int64(-3); d <= 3; d++ {
			l = append(l, int32(k.low+d), int32(k.high+d))
		}
	}
	for n := range 31 {
		l = append(l, 1<<n, -1<<n, 1<<n-1)
	}
	return l
}

// check holds May, Put and Get against the chapter, for one Ins.
func check(t *testing.T, r row, i api.Ins) {
	t.Helper()
	x, e := Put(i)
	if !r.may(i) {
		if May(i) || x != 0 || e != api.ErrArg {
			t.Fatalf("%+v may not be: May %v, Put %#x, error %d", i, May(i), x, e)
		}
		return
	}
	if !May(i) || x != r.want(i) || e != api.OK {
		t.Fatalf("%+v: May %v, Put %#x, not %#x, error %d", i, May(i), x, r.want(i), e)
	}
	if y, e := Get(x); y != i || e != api.OK {
		t.Fatalf("Get(%#x): %+v, not %+v, error %d", x, y, i, e)
	}
}

// 2.1: Ops, in the chapter's order, as new memory.
func TestOps(t *testing.T) {
	var want []string
	for _, r := range rows() {
		want = append(want, r.op)
	}
	if got := Ops(); len(got) != 53 || !slices.Equal(got, want) {
		t.Fatalf("Ops: %v", got)
	}
	l, m := Ops(), Ops()
	for k := range l[:cap(l)] {
		l[:cap(l)][k] = "nop"
	}
	_ = append(l, "nop")
	if !slices.Equal(m, want) || !slices.Equal(Ops(), want) {
		t.Fatal("Ops: what is written into one answer is seen in another")
	}
}

// 2.1, 2.2: one word of each Op, by hand.
func TestWordsByHand(t *testing.T) {
	three := func(op string) api.Ins { return api.Ins{Op: op, Rd: 5, R1: 6, R2: 7} }
	imm := func(op string, n int32) api.Ins { return api.Ins{Op: op, Rd: 5, R1: 6, Imm: n} }
	two := func(op string, n int32) api.Ins { return api.Ins{Op: op, R1: 6, R2: 7, Imm: n} }
	one := func(op string, n int32) api.Ins { return api.Ins{Op: op, Rd: 5, Imm: n} }
	none := func(op string) api.Ins { return api.Ins{Op: op} }
	cases := []struct {
		i api.Ins
		x uint32
	}{
		{three("add"), 0x007302b3}, {three("sub"), 0x407302b3}, {three("sll"), 0x007312b3}, {three("slt"), 0x007322b3},
		{three("sltu"), 0x007332b3}, {three("xor"), 0x007342b3}, {three("srl"), 0x007352b3}, {three("sra"), 0x407352b3},
		{three("or"), 0x007362b3}, {three("and"), 0x007372b3}, {three("mul"), 0x027302b3}, {three("mulh"), 0x027312b3},
		{three("mulhsu"), 0x027322b3}, {three("mulhu"), 0x027332b3}, {three("div"), 0x027342b3}, {three("divu"), 0x027352b3},
		{three("rem"), 0x027362b3}, {three("remu"), 0x027372b3},
		{imm("addi", 1), 0x00130293}, {imm("slti", -1), 0xfff32293}, {imm("sltiu", 2047), 0x7ff33293}, {imm("xori", -2048), 0x80034293},
		{imm("ori", 16), 0x01036293}, {imm("andi", 255), 0x0ff37293},
		{imm("slli", 31), 0x01f31293}, {imm("srli", 0), 0x00035293}, {imm("srai", 16), 0x41035293},
		{imm("lb", 1), 0x00130283}, {imm("lh", -2), 0xffe31283}, {imm("lw", 8), 0x00832283}, {imm("lbu", 3), 0x00334283},
		{imm("lhu", 2), 0x00235283}, {imm("jalr", -4), 0xffc302e7},
		{two("sb", 1), 0x007300a3}, {two("sh", -2), 0xfe731f23}, {two("sw", 32), 0x02732023},
		{two("beq", 8), 0x00730463}, {two("bne", -4), 0xfe731ee3}, {two("blt", 2048), 0x007340e3}, {two("bge", -4096), 0x80735063},
		{two("bltu", 4094), 0x7e736fe3}, {two("bgeu", 32), 0x02737063},
		{one("lui", 0xfffff), 0xfffff2b7}, {one("auipc", 1), 0x00001297}, {one("jal", 2048), 0x001002ef},
		{imm("csrrw", 0x305), 0x305312f3}, {imm("csrrs", 0xc00), 0xc00322f3}, {imm("csrrc", 4095), 0xfff332f3},
		{none("ecall"), 115}, {none("ebreak"), 1048691}, {none("mret"), 807403635}, {none("wfi"), 273678451}, {none("fence"), 15},
		{api.Ins{Op: "addi", Rd: 1, Imm: 5}, 5243027},
	}
	seen := map[string]int{}
	for _, c := range cases {
		seen[c.i.Op]++
		if x, e := Put(c.i); !May(c.i) || x != c.x || e != api.OK {
			t.Errorf("Put(%+v): %#x, not %#x, error %d", c.i, x, c.x, e)
		}
		if i, e := Get(c.x); i != c.i || e != api.OK {
			t.Errorf("Get(%#x): %+v, not %+v, error %d", c.x, i, c.i, e)
		}
	}
	for _, op := range Ops() {
		if seen[op] == 0 {
			t.Errorf("no word of %s by hand", op)
		}
	}
}

// 2.1: each bit of Imm alone has its own place in the words whose Imm stands apart.
func TestImmApart(t *testing.T) {
	cases := []struct {
		op     string
		places map[int]int // from a bit of Imm to one of the word
	}{
		{"sw", map[int]int{0: 7, 1: 8, 2: 9, 3: 10, 4: 11, 5: 25, 6: 26, 7: 27, 8: 28, 9: 29, 10: 30, 11: 31}},
		{"beq", map[int]int{1: 8, 2: 9, 3: 10, 4: 11, 5: 25, 6: 26, 7: 27, 8: 28, 9: 29, 10: 30, 11: 7, 12: 31}},
		{"jal", map[int]int{1: 21, 2: 22, 3: 23, 4: 24, 5: 25, 6: 26, 7: 27, 8: 28, 9: 29, 10: 30, 11: 20, 12: 12, 13: 13, 14: 14, 15: 15, 16: 16, 17: 17, 18: 18, 19: 19, 20: 31}},
	}
	for _, c := range cases {
		plain, _ := Put(api.Ins{Op: c.op})
		sign := slices.Max(slices.Collect(maps.Keys(c.places)))
		for bit, place := range c.places {
			imm := int32(1) << bit
			if bit == sign {
				imm = -imm
			}
			if x, e := Put(api.Ins{Op: c.op, Imm: imm}); x != plain|1<<place || e != api.OK {
				t.Errorf("%s: bit %d of Imm: %#x, error %d", c.op, bit, x, e)
			}
			if i, e := Get(plain | 1<<place); i != (api.Ins{Op: c.op, Imm: imm}) || e != api.OK {
				t.Errorf("%s: bit %d of the word: %+v, error %d", c.op, place, i, e)
			}
		}
	}
}

// 2.1, 2.2, 2.3: every Op with Imm at, beside and between all bounds, and in every field alone.
func TestImm(t *testing.T) {
	for _, r := range rows() {
		for _, n := range imms() {
			check(t, r, api.Ins{Op: r.op, Imm: n})
			i := api.Ins{Op: r.op, Imm: n}
			if r.has("Rd") {
				i.Rd = 21
			}
			if r.has("R1") {
				i.R1 = 10
			}
			if r.has("R2") {
				i.R2 = 19
			}
			check(t, r, i)
		}
	}
}

// 2.1, 2.2, 2.3: every Op with registers from below 0 to beyond 31, each alone and together with others.
func TestRegisters(t *testing.T) {
	numbers := []int{math.MinInt, -1 << 32, -33, -32, -2, -1, 32, 33, 63, 64, 1 << 31, 1 << 32, 1<<32 + 1, math.MaxInt}
	for n := range 32 {
		numbers = append(numbers, n)
	}
	for _, r := range rows() {
		for _, n := range numbers {
			check(t, r, api.Ins{Op: r.op, Rd: n})
			check(t, r, api.Ins{Op: r.op, R1: n})
			check(t, r, api.Ins{Op: r.op, R2: n})
			check(t, r, api.Ins{Op: r.op, Rd: n, R1: 31, R2: 31})
			check(t, r, api.Ins{Op: r.op, Rd: n, R1: n})
			check(t, r, api.Ins{Op: r.op, R1: n, R2: n})
			check(t, r, api.Ins{Op: r.op, Rd: n, R1: n, R2: n, Imm: int32(n % 32)})
		}
	}
}

// 2.1: each kind's bounds by hand: both ends, and just beyond them.
func TestBoundsByHand(t *testing.T) {
	cases := []struct {
		op       string
		may, not []int32
	}{
		{"add", []int32{0}, []int32{-1, 1}},
		{"addi", []int32{-2048, 2047}, []int32{-2049, 2048}},
		{"srai", []int32{0, 31}, []int32{-1, 32}},
		{"lw", []int32{-2048, 2047}, []int32{-2049, 2048}},
		{"jalr", []int32{-2048, -1, 2047}, []int32{-2049, 2048}},
		{"sw", []int32{-2048, 2047}, []int32{-2049, 2048}},
		{"beq", []int32{-4096, -2, 2, 4094}, []int32{-4098, -4097, -4095, -1, 1, 4093, 4095, 4096}},
		{"lui", []int32{0, 1<<20 - 1}, []int32{-1, 1 << 20}},
		{"jal", []int32{-1 << 20, -2, 2, 1<<20 - 2}, []int32{-1<<20 - 2, -1<<20 - 1, -1<<20 + 1, -1, 1, 1<<20 - 1, 1 << 20}},
		{"csrrw", []int32{0, 4095}, []int32{-1, 4096}},
		{"fence", []int32{0}, []int32{-1, 1}},
	}
	for _, c := range cases {
		for _, n := range c.may {
			if x, e := Put(api.Ins{Op: c.op, Imm: n}); !May(api.Ins{Op: c.op, Imm: n}) || x == 0 || e != api.OK {
				t.Errorf("%s with Imm %d may be: %#x, error %d", c.op, n, x, e)
			}
		}
		for _, n := range c.not {
			if x, e := Put(api.Ins{Op: c.op, Imm: n}); May(api.Ins{Op: c.op, Imm: n}) || x != 0 || e != api.ErrArg {
				t.Errorf("%s with Imm %d may not be: %#x, error %d", c.op, n, x, e)
			}
		}
	}
}

// 2.1, 2.2: another Op is none.
func TestOtherOps(t *testing.T) {
	for _, op := range []string{"", " ", "nop", "ADD", "Add", "add ", " add", "ad", "addd", "add\x00", "subi", "sltui", "lwu", "ld", "sd", "jr", "j", "csrrwi", "fence.i", "sret", "0", "\xff", strings.Repeat("a", 1<<16)} {
		for _, i := range []api.Ins{{Op: op}, {Op: op, Rd: 1, R1: 2, R2: 3, Imm: 4}} {
			if x, e := Put(i); May(i) || x != 0 || e != api.ErrArg {
				t.Errorf("%q: May %v, Put %#x, error %d", op, May(i), x, e)
			}
		}
	}
}

// checkWord holds Get of x against the bits that stand fast in the words of each Op.
func checkWord(t *testing.T, l []fast, x uint32) {
	t.Helper()
	op := ""
	for _, f := range l {
		if x&f.mask == f.value {
			op = f.op
		}
	}
	i, e := Get(x)
	if op == "" {
		if i != (api.Ins{}) || e != api.ErrForm {
			t.Fatalf("Get(%#x) is no instruction: %+v, error %d", x, i, e)
		}
		return
	}
	if i.Op != op || e != api.OK {
		t.Fatalf("Get(%#x) is of %s: %+v, error %d", x, op, i, e)
	}
	if y, e := Put(i); y != x || e != api.OK {
		t.Fatalf("Put of Get(%#x), %+v: %#x, error %d", x, i, y, e)
	}
}

type fast struct {
	op          string
	mask, value uint32
}

func allFast() []fast {
	var l []fast
	for _, r := range rows() {
		mask, value := r.fixed()
		l = append(l, fast{r.op, mask, value})
	}
	return l
}

// 2.2: Get of every opcode, g and f, the registers' bits now 0, now 1, now mixed.
func TestWords(t *testing.T) {
	l := allFast()
	for opcode := range uint32(128) {
		for g := range uint32(8) {
			for f := range uint32(128) {
				x := f<<25 | g<<12 | opcode
				checkWord(t, l, x)
				checkWord(t, l, x|0x01ff8f80)
				checkWord(t, l, x|(f*0x9e3779b9^g*0x85ebca6b)&0x01ff8f80)
			}
		}
	}
}

// 2.2: a word one bit beside that of an Op.
func TestWordsBeside(t *testing.T) {
	l := allFast()
	for _, f := range l {
		checkWord(t, l, f.value)
		for a := range 32 {
			checkWord(t, l, f.value^1<<a)
			for b := range a {
				checkWord(t, l, f.value^1<<a^1<<b)
			}
		}
	}
}

// 2.2, 2.3: any words.
func TestAnyWords(t *testing.T) {
	l := allFast()
	r := rand.New(rand.NewSource(2))
	for range 100000 {
		x := r.Uint32()
		checkWord(t, l, x)
		f := l[r.Intn(len(l))]
		checkWord(t, l, x&^f.mask|f.value)
	}
}

// 2.2: words that are no instruction, by hand.
func TestNoWords(t *testing.T) {
	for _, x := range []uint32{
		0, 1, 2, 1<<31 - 1, 1 << 31, 1<<32 - 1,
		0x04000033, 0x40001033, 0x42000033, 0x80000033, // f that no operation has
		0x02001013, 0x40001013, 0x02005013, 0x60005013, // f that no shift has
		0x00003003, 0x00006003, 0x00007003, 0x00001067, 0x00007067, 0x00003023, 0x00007023, 0x00002063, 0x00003063, // g
		0x00004073, 0x00005073, 0x00006073, 0x00007073, // g of csr
		0x000000f3, 0x00008073, 0x00200073, 0x30200073 | 1<<7, 0x10500073 | 1<<15, // fields that bare ones have not
		0x0000100f, 0x0ff0000f, 0x0000008f, // fence
		0x00000032, 0x00000031, 0x0000001b, 0x0000002f, 0x00000053, 0x0000003b, // opcodes
	} {
		if i, e := Get(x); i != (api.Ins{}) || e != api.ErrForm {
			t.Errorf("Get(%#x): %+v, error %d", x, i, e)
		}
	}
}
