package asm

import (
	"fmt"
	"math"
	"slices"
	"testing"

	"footman/api"
	"footman/code"
)

func label(name string) api.Item {
	return api.Item{Kind: api.ALabel, Name: name}
}

func plain(i api.Ins) api.Item {
	return api.Item{Kind: api.AIns, Ins: i}
}

func branch(op string, r1, r2 int, name string) api.Item {
	return api.Item{Kind: api.ABranch, Name: name, Ins: pair(op, r1, r2, 0)}
}

func jump(rd int, name string) api.Item {
	return api.Item{Kind: api.AJump, Name: name, Ins: api.Ins{Rd: rd}}
}

func load(rd int, n uint32) api.Item {
	return api.Item{Kind: api.ALoad, N: n, Ins: api.Ins{Rd: rd}}
}

func addr(rd int, name string) api.Item {
	return api.Item{Kind: api.AAddr, Name: name, Ins: api.Ins{Rd: rd}}
}

func words(l ...uint32) api.Item {
	return api.Item{Kind: api.AWords, Words: l}
}

func space(n uint32) api.Item {
	return api.Item{Kind: api.ASpace, N: n}
}

// A branch as an instruction.
func pair(op string, r1, r2 int, imm int32) api.Ins {
	return api.Ins{Op: op, R1: r1, R2: r2, Imm: imm}
}

func two(op string, rd, r1 int, imm int32) api.Ins {
	return api.Ins{Op: op, Rd: rd, R1: r1, Imm: imm}
}

func one(op string, rd int, imm int32) api.Ins {
	return api.Ins{Op: op, Rd: rd, Imm: imm}
}

// A program by its items.
func items(l ...api.Item) []api.Item {
	return l
}

// done is what Assemble tells of items that are right.
func done(t *testing.T, base uint32, l []api.Item) ([]uint32, []api.Sym) {
	t.Helper()
	x, syms, at, e := Assemble(base, l)
	if e != api.OK || at != 0 {
		t.Fatalf("8.3: Assemble(%#x, %d items): at %d, error %d", base, len(l), at, e)
	}
	return x, syms
}

// wrong asks for an error, its place, and nothing beside them.
func wrong(t *testing.T, base uint32, l []api.Item, at int, e api.Errno) {
	t.Helper()
	x, syms, gotAt, gotE := Assemble(base, l)
	if gotAt != at || gotE != e || len(x) != 0 || len(syms) != 0 {
		t.Errorf("8.3: Assemble(%#x, %s): %d words, %d syms, at %d, error %d, not at %d, error %d",
			base, brief(l), len(x), len(syms), gotAt, gotE, at, e)
	}
}

// brief is the first few items as a text.
func brief(l []api.Item) string {
	return fmt.Sprintf("%d items: %+v", len(l), l[:min(len(l), 6)])
}

// is asks for words as instructions.
func is(t *testing.T, got []uint32, want ...api.Ins) {
	t.Helper()
	if len(got) != len(want) {
		t.Errorf("8.1: %d words, not %d: %#x", len(got), len(want), got)
		return
	}
	for n, x := range got {
		if i, e := code.Get(x); e != api.OK || i != want[n] {
			t.Errorf("8.1: word %d: %+v, not %+v", n, i, want[n])
		}
	}
}

// has asks for the words of a program from base on.
func has(t *testing.T, base uint32, l []api.Item, want ...api.Ins) {
	t.Helper()
	got, _ := done(t, base, l)
	is(t, got, want...)
}

func TestNothing(t *testing.T) {
	for _, base := range []uint32{0, 4, 0x1000, 1<<32 - 4} {
		for _, l := range [][]api.Item{nil, {}} {
			if x, syms := done(t, base, l); len(x) != 0 || len(syms) != 0 {
				t.Errorf("8.3: Assemble(%#x) of nothing: %#x, %v", base, x, syms)
			}
		}
	}
}

// All kinds one behind the other, with labels between them: each stands where the ones ahead of it end.
func TestItemsStandOneBehindTheOther(t *testing.T) {
	l := items(
		label("start"), plain(api.Ins{Op: "mul", Rd: 1, R1: 2, R2: 3}), label("ins"), branch("bltu", 4, 5, "end"), label("branch"),
		jump(1, "start"), label("jump"), load(6, 7), label("short"), load(7, 0x12345678), label("long"), addr(8, "words"), label("addr"),
		words(0xdeadbeef, 0, 0xffffffff), label("words"), space(2), label("space"), words(), label("empty"), space(0), label("end"),
		plain(api.Ins{Op: "mret"}),
	)
	starts := []api.Sym{
		{Name: "start", At: 0}, {Name: "ins", At: 4}, {Name: "branch", At: 8}, {Name: "jump", At: 12}, {Name: "short", At: 16},
		{Name: "long", At: 24}, {Name: "addr", At: 32}, {Name: "words", At: 44}, {Name: "space", At: 52}, {Name: "empty", At: 52},
		{Name: "end", At: 52},
	}
	for _, base := range []uint32{0, 4, 0x100, 0x7f0, 0x800, 0x1000, 0x3ffc, 0x7ffffff0, 0x80000000, 0xffffffc0, 0xfffffffc} {
		got, syms := done(t, base, l)
		for n, s := range starts {
			if n >= len(syms) || syms[n] != (api.Sym{Name: s.Name, At: base + s.At}) {
				t.Fatalf("8.3: from %#x on: syms %v", base, syms)
			}
		}
		if len(syms) != len(starts) || len(got) != 14 {
			t.Fatalf("8.1: from %#x on: %d syms, %d words", base, len(syms), len(got))
		}
		is(t, got[:6], api.Ins{Op: "mul", Rd: 1, R1: 2, R2: 3}, pair("bltu", 4, 5, 48), one("jal", 1, -8), two("addi", 6, 0, 7),
			one("lui", 7, 0x12345), two("addi", 7, 7, 0x678))
		if n := made(t, got[6:8], 8); n != base+44 {
			t.Errorf("8.1: AAddr from %#x on: %#x", base, n)
		}
		if want := []uint32{0xdeadbeef, 0, 0xffffffff, 0, 0}; !slices.Equal(got[8:13], want) {
			t.Errorf("8.1: AWords, ASpace: %#x", got[8:13])
		}
		is(t, got[13:], api.Ins{Op: "mret"})
	}
}

// made is the number that lui and addi of one register make.
func made(t *testing.T, l []uint32, rd int) uint32 {
	t.Helper()
	if len(l) != 2 {
		t.Fatalf("8.1: %d words, not lui and addi", len(l))
	}
	high, _ := code.Get(l[0])
	low, _ := code.Get(l[1])
	if high != one("lui", rd, high.Imm) || low != two("addi", rd, rd, low.Imm) {
		t.Fatalf("8.1: %+v, %+v, not lui and addi of %d", high, low, rd)
	}
	return uint32(high.Imm)<<12 + uint32(low.Imm)
}

func TestEveryInstruction(t *testing.T) {
	for _, op := range code.Ops() {
		for _, i := range []api.Ins{{Op: op}, two(op, 31, 31, 8), two(op, 1, 2, -2), pair(op, 5, 6, -6), {Op: op, Rd: 1, R1: 2, R2: 3}, one(op, 7, 1<<20-2)} {
			if !code.May(i) {
				wrong(t, 0, items(space(1), plain(i)), 1, api.ErrArg)
				continue
			}
			has(t, 4, items(plain(i), plain(i)), i, i)
		}
	}
}

func TestLoadShort(t *testing.T) {
	for _, n := range []uint32{0, 1, 4, 2046, 2047, 1<<32 - 2048, 1<<32 - 2047, 1<<32 - 2, 1<<32 - 1} {
		for _, rd := range []int{0, 1, 31} {
			has(t, 0, items(load(rd, n)), two("addi", rd, 0, int32(n)))
		}
	}
}

func TestLoadLong(t *testing.T) {
	for _, c := range []struct {
		n         uint32
		high, low int32
	}{
		{2048, 1, -2048}, {2049, 1, -2047}, {4095, 1, -1}, {4096, 1, 0}, {4097, 1, 1}, {6143, 1, 2047}, {6144, 2, -2048},
		{0x12345000, 0x12345, 0}, {0x123457ff, 0x12345, 2047}, {0x12345800, 0x12346, -2048}, {0x12345fff, 0x12346, -1},
		{0x7ffff7ff, 0x7ffff, 2047}, {0x7ffff800, 0x80000, -2048}, {0x7fffffff, 0x80000, -1}, {0x80000000, 0x80000, 0}, {0x80000001, 0x80000, 1},
		{1<<32 - 4096, 0xfffff, 0}, {1<<32 - 2049, 0xfffff, 2047}, {1<<32 - 4097, 0xfffff, -1}, {1<<32 - 6145, 0xffffe, 2047}, {1<<32 - 6144, 0xfffff, -2048},
	} {
		for _, rd := range []int{0, 1, 31} {
			has(t, 0, items(load(rd, c.n)), one("lui", rd, c.high), two("addi", rd, rd, c.low))
		}
	}
}

// AAddr has two words of every address, also of one that addi alone could make.
func TestAddr(t *testing.T) {
	for _, c := range []struct {
		at        uint32
		high, low int32
	}{
		{0, 0, 0}, {4, 0, 4}, {2044, 0, 2044}, {2048, 1, -2048}, {4092, 1, -4}, {4096, 1, 0}, {4100, 1, 4}, {6140, 1, 2044}, {6144, 2, -2048},
		{0x7ffffffc, 0x80000, -4}, {0x80000000, 0x80000, 0}, {0xfffff7fc, 0xfffff, 2044}, {0xfffff800, 0, -2048}, {0xfffffffc, 0, -4},
	} {
		for _, rd := range []int{0, 1, 31} {
			want := []api.Ins{one("lui", rd, c.high), two("addi", rd, rd, c.low)}
			has(t, c.at, items(label("a"), addr(rd, "a")), want...)
			has(t, c.at-8, items(addr(rd, "a"), label("a")), want...)
		}
	}
}

// Fields that a kind does not ask for count for nothing.
func TestWhatAKindDoesNotAskFor(t *testing.T) {
	junk := api.Item{Name: "nowhere", Ins: api.Ins{Op: "what", Rd: -5, R1: 77, R2: -1, Imm: 3}, N: 1 << 31, Words: []uint32{1, 2}}
	of := func(kind int, change func(x *api.Item)) api.Item {
		x := junk
		x.Kind = kind
		change(&x)
		return x
	}
	got, syms := done(t, 8, items(
		of(api.ALabel, func(x *api.Item) { x.Name = "a" }),
		of(api.AIns, func(x *api.Item) { x.Ins = api.Ins{Op: "wfi"} }),
		of(api.ABranch, func(x *api.Item) { x.Name, x.Ins = "a", pair("bge", 1, 2, 0) }),
		of(api.AJump, func(x *api.Item) { x.Name, x.Ins.Rd = "a", 3 }),
		of(api.ALoad, func(x *api.Item) { x.N, x.Ins.Rd = 9, 4 }),
		of(api.AAddr, func(x *api.Item) { x.Name, x.Ins.Rd = "a", 5 }),
		of(api.AWords, func(x *api.Item) {}),
		of(api.ASpace, func(x *api.Item) { x.N = 1 }),
	))
	if len(got) != 9 || !slices.Equal(got[6:], []uint32{1, 2, 0}) || !slices.Equal(syms, []api.Sym{{Name: "a", At: 8}}) {
		t.Fatalf("8.1: %#x, %v", got, syms)
	}
	is(t, got[:6], api.Ins{Op: "wfi"}, pair("bge", 1, 2, -4), one("jal", 3, -8), two("addi", 4, 0, 9), one("lui", 5, 0), two("addi", 5, 5, 8))
}

var turns = []struct{ op, about string }{
	{"beq", "bne"}, {"bne", "beq"}, {"blt", "bge"}, {"bge", "blt"}, {"bltu", "bgeu"}, {"bgeu", "bltu"},
}

func TestNear(t *testing.T) {
	for _, c := range turns {
		for _, base := range []uint32{0, 0x1000, 0xfffffff8} {
			has(t, base, items(label("a"), branch(c.op, 31, 0, "a")), pair(c.op, 31, 0, 0))
			has(t, base, items(branch(c.op, 0, 31, "a"), label("a")), pair(c.op, 0, 31, 4))
			has(t, base, items(label("a"), load(1, 1), branch(c.op, 1, 2, "a"), branch(c.op, 3, 4, "b"), load(1, 1), label("b")),
				two("addi", 1, 0, 1), pair(c.op, 1, 2, -4), pair(c.op, 3, 4, 8), two("addi", 1, 0, 1))
		}
	}
}

// Of words between a branch and its label: 1022 ahead and 1024 back are the last that are near.
func TestLastNearAndFirstFar(t *testing.T) {
	for _, c := range turns {
		for _, base := range []uint32{0, 0x1000, 0x7ffffffc, 0xfffffc00} {
			for _, n := range []uint32{1, 1021, 1022, 1023, 1024, 5000, api.MaxWords - 2} {
				got, syms := done(t, base, items(branch(c.op, 1, 2, "a"), space(n), label("a")))
				if n <= 1022 {
					is(t, got[:1], pair(c.op, 1, 2, int32(4*n+4)))
				} else {
					is(t, got[:2], pair(c.about, 1, 2, 8), one("jal", 0, int32(4*n+4)))
				}
				if end := base + 4*uint32(len(got)); uint32(len(got)) != n+sizeOf(n > 1022) || syms[0].At != end {
					t.Errorf("8.1: %s ahead over %d words: %d words, label at %#x", c.op, n, len(got), syms[0].At)
				}
			}
			for _, n := range []uint32{0, 1, 1023, 1024, 1025, 1026, 5000, api.MaxWords - 2} {
				got, _ := done(t, base, items(label("a"), space(n), branch(c.op, 1, 2, "a")))
				if n <= 1024 {
					is(t, got[n:], pair(c.op, 1, 2, -int32(4*n)))
				} else {
					is(t, got[n:], pair(c.about, 1, 2, 8), one("jal", 0, -int32(4*n+4)))
				}
			}
		}
	}
}

func sizeOf(far bool) uint32 {
	if far {
		return 2
	}
	return 1
}

// A branch that is far is one word longer: the one around it, near by a hair, is far because of it.
func TestFarBecauseOfAnother(t *testing.T) {
	ahead := func(room uint32) []api.Item {
		return items(branch("blt", 1, 2, "a"), branch("beq", 3, 4, "far"), space(room), label("a"), space(2000), label("far"))
	}
	got, _ := done(t, 0, ahead(1020))
	is(t, got[:3], pair("blt", 1, 2, 4092), pair("bne", 3, 4, 8), one("jal", 0, 4*(1+1020+2000)))
	got, _ = done(t, 0, ahead(1021))
	is(t, got[:4], pair("bge", 1, 2, 8), one("jal", 0, 4*(3+1021)), pair("bne", 3, 4, 8), one("jal", 0, 4*(1+1021+2000)))

	back := func(room uint32) []api.Item {
		return items(label("far"), space(2000), label("a"), space(room), branch("beq", 3, 4, "far"), branch("blt", 1, 2, "a"))
	}
	got, _ = done(t, 0, back(1022))
	is(t, got[3022:], pair("bne", 3, 4, 8), one("jal", 0, -4*3023), pair("blt", 1, 2, -4*1024))
	got, _ = done(t, 0, back(1023))
	is(t, got[3023:], pair("bne", 3, 4, 8), one("jal", 0, -4*3024), pair("bge", 1, 2, 8), one("jal", 0, -4*1026))
}

// All between a branch and its label are branches: the farthest of them, which is far, makes it far, too.
func TestFarBecauseOfTheFarthest(t *testing.T) {
	short := func(n int) (l []api.Item) {
		for k := range n {
			name := fmt.Sprint("here", k)
			l = append(l, label(name), branch("bge", 5, 6, name))
		}
		return l
	}
	far := branch("beq", 3, 4, "far")
	ahead := append(append(items(branch("blt", 1, 2, "a")), short(1021)...), far, label("a"), space(3000), label("far"))
	got, _ := done(t, 0, ahead)
	is(t, got[:3], pair("bge", 1, 2, 8), one("jal", 0, 4*1024), pair("bge", 5, 6, 0))
	back := append(append(items(label("a"), far), short(1023)...), branch("blt", 1, 2, "a"), space(3000), label("far"))
	got, _ = done(t, 0, back)
	is(t, got[1024:1027], pair("bge", 5, 6, 0), pair("bge", 1, 2, 8), one("jal", 0, -4*1026))
	// With one branch less both are near.
	got, _ = done(t, 0, slices.Delete(ahead, 1, 3))
	is(t, got[:2], pair("blt", 1, 2, 4*1023), pair("bge", 5, 6, 0))
	got, _ = done(t, 0, slices.Delete(back, 2, 4))
	is(t, got[1023:1025], pair("bge", 5, 6, 0), pair("blt", 1, 2, -4*1024))
}

// A far branch ahead of both, behind both, or the one itself, makes nothing between a branch and its label longer.
func TestNotFarBecauseOfOneOutside(t *testing.T) {
	got, _ := done(t, 0, items(branch("beq", 0, 0, "far"), branch("blt", 1, 2, "a"), space(1022), label("a"), branch("beq", 0, 0, "far"), space(2000), label("far")))
	is(t, got[2:3], pair("blt", 1, 2, 4*1023))
	got, _ = done(t, 0, items(label("far"), space(2000), branch("beq", 0, 0, "far"), label("a"), space(1024), branch("blt", 1, 2, "a"), branch("beq", 0, 0, "far")))
	is(t, got[2002+1024:2002+1025], pair("blt", 1, 2, -4*1024))
	if len(got) != 2000+2+1024+1+2 {
		t.Errorf("8.2: %d words", len(got))
	}
}

// A row of n branches to labels of their own behind a space; the last one is far by itself if begin, each other one
// is near by a hair until all behind it are far.
func chain(n int, begin bool) []api.Item {
	var l, ends []api.Item
	for k := range n {
		l = append(l, branch("bne", k%32, 1, fmt.Sprint("to", k)))
	}
	behind := 0
	for k := range n {
		// The row's own words behind k, and with it, and one more for each that is far ahead of k's turn.
		reach := 1023 - (n - k) - max(0, n-k-2)
		if k == n-1 && begin {
			reach++
		}
		ends = append(ends, space(uint32(reach-behind)), label(fmt.Sprint("to", k)))
		behind = reach
	}
	return append(l, ends...)
}

func TestOneAfterTheOtherBecomesFar(t *testing.T) {
	for _, n := range []int{2, 3, 10, 300} {
		got, _ := done(t, 0, chain(n, false))
		near := len(got)
		for k := range n {
			if i, _ := code.Get(got[k]); i.Op != "bne" {
				t.Errorf("8.2: row of %d: branch %d is far", n, k)
			}
		}
		got, _ = done(t, 0, chain(n, true))
		if len(got) != near+n+1 {
			t.Errorf("8.2: row of %d: %d words, not %d: not all are far", n, len(got), near+n+1)
		}
	}
}

// Far ones back and ahead, each because of another one of the other way.
func TestFarBothWays(t *testing.T) {
	l := items(
		label("top"), space(10), label("low"), branch("beq", 1, 2, "high"), space(1021), branch("bne", 3, 4, "low"), label("high"),
		space(3), branch("bltu", 5, 6, "top"),
	)
	// bltu is far by itself, from top on 10 + 1 + 1021 + 1 + 3 words; beq and bne reach 1023 ahead and 1022 back.
	got, _ := done(t, 0, l)
	is(t, []uint32{got[10], got[1032], got[1036], got[1037]}, pair("beq", 1, 2, 4*1023), pair("bne", 3, 4, -4*1022), pair("bgeu", 5, 6, 8), one("jal", 0, -4*1037))
	l[4].N++
	got, _ = done(t, 0, l)
	is(t, []uint32{got[10], got[11], got[1034]}, pair("bne", 1, 2, 8), one("jal", 0, 4*1024), pair("bne", 3, 4, -4*1024))
	l[4].N++
	got, _ = done(t, 0, l)
	is(t, []uint32{got[10], got[11], got[1035], got[1036]}, pair("bne", 1, 2, 8), one("jal", 0, 4*1026), pair("beq", 3, 4, 8), one("jal", 0, -4*1026))
}

// Some branches to one label, and one label's name as the beginning of another's: each is far or near by itself.
func TestFarByPlaceAndName(t *testing.T) {
	got, _ := done(t, 0, items(branch("beq", 1, 1, "a"), branch("beq", 2, 2, "ab"), label("ab"), space(10), branch("beq", 3, 3, "a"), space(1020), label("a")))
	is(t, append(got[:3:3], got[13]), pair("bne", 1, 1, 8), one("jal", 0, 4*1033), pair("beq", 2, 2, 4), pair("beq", 3, 3, 4*1021))
}

func TestJump(t *testing.T) {
	for _, rd := range []int{0, 1, 31} {
		for _, base := range []uint32{0, 0x1000, 0x7ffffffc, 0xfffffffc} {
			has(t, base, items(label("a"), jump(rd, "a")), one("jal", rd, 0))
			has(t, base, items(jump(rd, "a"), label("a")), one("jal", rd, 4))
			for _, n := range []uint32{1022, 1023, 1025, 5000, api.MaxWords - 2, api.MaxWords - 1} {
				got, _ := done(t, base, items(jump(rd, "a"), space(n), label("a")))
				is(t, got[:1], one("jal", rd, int32(4*n+4)))
				got, _ = done(t, base, items(label("a"), space(n), jump(rd, "a")))
				is(t, got[n:], one("jal", rd, -int32(4*n)))
			}
		}
	}
}

// Where addresses wrap round, distances do not.
func TestDistancesWrapRound(t *testing.T) {
	const base = 1<<32 - 8
	l := items(label("a"), branch("beq", 1, 2, "b"), jump(3, "b"), branch("bne", 3, 4, "a"), label("b"), jump(4, "a"), addr(5, "b"))
	got, syms := done(t, base, l)
	if !slices.Equal(syms, []api.Sym{{Name: "a", At: base}, {Name: "b", At: 4}}) {
		t.Errorf("8.3: syms %v", syms)
	}
	is(t, got, pair("beq", 1, 2, 12), one("jal", 3, 8), pair("bne", 3, 4, -8), one("jal", 4, -12), one("lui", 5, 0), two("addi", 5, 5, 4))
	got, syms = done(t, 1<<32-4096, items(label("a"), space(2000), branch("beq", 1, 2, "a"), branch("beq", 1, 2, "b"), space(2000), label("b")))
	is(t, got[2000:2004], pair("bne", 1, 2, 8), one("jal", 0, -4*2001), pair("bne", 1, 2, 8), one("jal", 0, 4*2001))
	if syms[0].At != 1<<32-4096 || syms[1].At != 4*4004-4096 {
		t.Errorf("8.3: syms %v", syms)
	}
}

func TestSymsOfFarOnes(t *testing.T) {
	_, syms := done(t, 0x400, items(label("z"), branch("beq", 0, 0, "end"), label("m"), space(3000), label("b"), label("a"), branch("beq", 0, 0, "z"), label("end")))
	want := []api.Sym{{Name: "z", At: 0x400}, {Name: "m", At: 0x408}, {Name: "b", At: 0x408 + 12000}, {Name: "a", At: 0x408 + 12000}, {Name: "end", At: 0x410 + 12000}}
	if !slices.Equal(syms, want) {
		t.Errorf("8.3: syms %v, not %v", syms, want)
	}
}

// Names are any bytes but none at all.
func TestNamesOfLabels(t *testing.T) {
	names := []string{" ", "\x00", "a", "A", "a ", "\xff\xfe", "ä", "0", "a\nb"}
	var l []api.Item
	for _, name := range names {
		l = append(l, label(name), jump(0, name))
	}
	got, syms := done(t, 0, l)
	for n, name := range names {
		if syms[n] != (api.Sym{Name: name, At: uint32(4 * n)}) {
			t.Errorf("8.3: sym %d: %v", n, syms[n])
		}
		is(t, got[n:n+1], one("jal", 0, 0))
	}
}

func TestAlign(t *testing.T) {
	for _, base := range []uint32{1, 2, 3, 5, 6, 0x1002, 1<<32 - 1, 1<<32 - 2, 1<<32 - 3} {
		for _, l := range [][]api.Item{nil, items(space(1)), items(label("a"), api.Item{}), items(space(1), label("")), items(label("a"), space(math.MaxUint32))} {
			wrong(t, base, l, 0, api.ErrAlign)
		}
	}
}

func TestAnotherKind(t *testing.T) {
	for _, kind := range []int{math.MinInt, -8, -1, 0, 9, 10, 1 << 32, 1<<32 + api.ASpace, math.MaxInt} {
		for n := range 3 {
			l := append(slices.Repeat(items(space(1)), n), api.Item{Kind: kind, Name: "a", Ins: api.Ins{Op: "wfi"}})
			wrong(t, 0, append(l, label("a")), n, api.ErrArg)
		}
	}
}

func TestInsThatMayNotBe(t *testing.T) {
	for _, i := range []api.Ins{
		{}, {Op: "nop"}, {Op: "ADDI"}, two("addi", 1, 0, 2048), two("addi", 1, 0, -2049), two("addi", 32, 0, 0), two("addi", -1, 0, 0), two("addi", 0, 32, 0),
		{Op: "addi", R2: 1}, {Op: "add", Imm: 1}, pair("beq", 0, 0, 3), pair("beq", 0, 0, 4096), {Op: "beq", Rd: 1}, one("jal", 0, 1<<20), one("lui", 0, -1), {Op: "ecall", Rd: 1},
	} {
		wrong(t, 0, items(label("a"), plain(i)), 1, api.ErrArg)
	}
	// As an instruction of its own a branch may have its Imm.
	has(t, 0, items(plain(pair("beq", 1, 2, -4096)), plain(one("jal", 1, 2))), pair("beq", 1, 2, -4096), one("jal", 1, 2))
}

func TestBranchThatMayNotBe(t *testing.T) {
	bad := func(i api.Ins) {
		t.Helper()
		x := api.Item{Kind: api.ABranch, Name: "a", Ins: i}
		wrong(t, 0, items(label("a"), x), 1, api.ErrArg)
		wrong(t, 0, items(x, space(5000), label("a")), 0, api.ErrArg)
	}
	isBranch := func(op string) bool {
		return slices.ContainsFunc(turns, func(c struct{ op, about string }) bool { return c.op == op })
	}
	for _, op := range append(code.Ops(), "", "b", "bgt", "ble", "BEQ", "beq ", "beqz", "bgtu") {
		if !isBranch(op) {
			bad(api.Ins{Op: op})
		}
	}
	for _, c := range turns {
		for _, imm := range []int32{2, 4, -4, 1, -1, 8, 4094, -4096, 4096, math.MaxInt32, math.MinInt32} {
			bad(pair(c.op, 1, 2, imm))
		}
		for _, r := range []int{-1, 32, 33, math.MinInt, math.MaxInt, 1 << 32} {
			bad(pair(c.op, r, 0, 0))
			bad(pair(c.op, 0, r, 0))
			bad(api.Ins{Op: c.op, Rd: r})
		}
		bad(api.Ins{Op: c.op, Rd: 1})
	}
}

func TestRdThatMayNotBe(t *testing.T) {
	for _, rd := range []int{-1, -32, 32, 33, 64, 1 << 32, math.MinInt, math.MaxInt} {
		for _, x := range []api.Item{jump(rd, "a"), load(rd, 0), load(rd, 5000), addr(rd, "a")} {
			wrong(t, 0, items(label("a"), x), 1, api.ErrArg)
			wrong(t, 0, items(x, label("a")), 0, api.ErrArg)
		}
	}
}

func TestNames(t *testing.T) {
	wrong(t, 0, items(label("")), 0, api.ErrName)
	wrong(t, 0, items(label("a"), space(1), label("")), 2, api.ErrName)
	wrong(t, 0, items(label("a"), label("a")), 1, api.ErrName)
	wrong(t, 0, items(label("a"), label("b"), space(3), label("b"), label("a")), 3, api.ErrName)
	for _, x := range []api.Item{branch("beq", 0, 0, "b"), jump(0, "b"), addr(0, "b"), branch("beq", 0, 0, ""), jump(0, ""), addr(0, "")} {
		wrong(t, 0, items(x), 0, api.ErrName)
		wrong(t, 0, items(label("a"), x, label("A"), label("bb"), label("B")), 1, api.ErrName)
	}
	// A name that something else has beside its kind is no label's.
	wrong(t, 0, items(api.Item{Kind: api.ASpace, Name: "b"}, jump(0, "b")), 1, api.ErrName)
	// A label behind what is wrong is one all the same.
	wrong(t, 0, items(jump(0, "b"), label("a"), label("a"), label("b")), 2, api.ErrName)
	// A label's own Name is there, also where it is none: the label is what is wrong.
	wrong(t, 0, items(jump(0, ""), label("")), 1, api.ErrName)
}

func TestFull(t *testing.T) {
	most := uint32(api.MaxWords)
	done(t, 0, items(space(most)))
	done(t, 0, items(space(most), space(0), words(), label("a")))
	wrong(t, 0, items(space(most+1)), 0, api.ErrFull)
	wrong(t, 0, items(label("a"), space(math.MaxUint32)), 1, api.ErrFull)
	wrong(t, 0, items(space(math.MaxUint32), space(math.MaxUint32)), 0, api.ErrFull)
	wrong(t, 0, items(space(1), space(math.MaxUint32)), 1, api.ErrFull)
	wrong(t, 0, items(words(make([]uint32, most+1)...)), 0, api.ErrFull)
	for _, c := range []struct {
		x    api.Item
		size uint32
	}{
		{plain(api.Ins{Op: "wfi"}), 1}, {branch("beq", 0, 0, "near"), 1}, {jump(1, "a"), 1}, {load(1, 2047), 1}, {load(1, 2048), 2}, {addr(1, "a"), 2},
		{words(1, 2, 3), 3}, {space(5), 5},
	} {
		with := func(room uint32) []api.Item {
			return items(label("a"), space(room), label("near"), c.x, label("end"))
		}
		if got, _ := done(t, 0, with(most-c.size)); len(got) != api.MaxWords {
			t.Errorf("8.1: %d words", len(got))
		}
		for less := range c.size {
			wrong(t, 0, with(most-less), 3, api.ErrFull)
		}
	}
}

// Far ones count as two, but only where nothing is wrong with each of them as one.
func TestFullOfFarOnes(t *testing.T) {
	most := uint32(api.MaxWords)
	far := branch("beq", 1, 2, "a")
	done(t, 0, items(label("a"), space(most-2), far, label("b")))
	wrong(t, 0, items(label("a"), space(most-1), far, label("b")), 2, api.ErrFull)
	wrong(t, 0, items(label("a"), space(most), far, label("b")), 2, api.ErrFull)
	wrong(t, 0, items(label("a"), space(most-3), far, far, label("b")), 3, api.ErrFull)
	done(t, 0, items(label("a"), space(most-4), far, far, label("b")))
	// As one and one there is room for both: the first one as two takes the room of what stands behind.
	wrong(t, 0, items(label("a"), space(3000), far, space(most-3001), label("b")), 3, api.ErrFull)
	wrong(t, 0, items(label("a"), space(3000), far, space(most-3002), load(1, 1), label("b")), 4, api.ErrFull)
	// With each as one something later is wrong: that counts, not what is full of far ones.
	wrong(t, 0, items(label("a"), space(most-1), far, label("a")), 3, api.ErrName)
	wrong(t, 0, items(label("a"), space(most-1), far, api.Item{}), 3, api.ErrArg)
	wrong(t, 0, items(label("a"), space(most-1), far, load(1, 1)), 3, api.ErrFull)
	wrong(t, 0, items(label("a"), space(3000), far, space(most-3001), load(1, 1), label("b")), 4, api.ErrFull)
	// Each is near: there is room for as many.
	near := append(items(label("a")), slices.Repeat(items(branch("beq", 0, 0, "a")), 1025)...)
	done(t, 0, append(near, space(most-1025)))
	wrong(t, 0, append(slices.Clone(near), branch("beq", 0, 0, "a"), space(most-1026)), len(near)+1, api.ErrFull)
}

// At one item the first kind of error in the chapter's order, at several items the first item.
func TestWhichErrorComesFirst(t *testing.T) {
	most := uint32(api.MaxWords)
	wrong(t, 2, items(api.Item{}), 0, api.ErrAlign)
	// One item.
	wrong(t, 0, items(addr(40, "b")), 0, api.ErrArg)
	wrong(t, 0, items(jump(-1, "")), 0, api.ErrArg)
	wrong(t, 0, items(branch("add", 0, 0, "b")), 0, api.ErrArg)
	wrong(t, 0, items(space(most), addr(40, "b")), 1, api.ErrArg)
	wrong(t, 0, items(space(most), load(40, 0)), 1, api.ErrArg)
	wrong(t, 0, items(space(most), plain(api.Ins{Op: "nop"})), 1, api.ErrArg)
	wrong(t, 0, items(space(most), branch("beq", 32, 0, "b")), 1, api.ErrArg)
	wrong(t, 0, items(space(most), addr(4, "b")), 1, api.ErrName)
	wrong(t, 0, items(space(most), jump(4, "b")), 1, api.ErrName)
	wrong(t, 0, items(space(most), branch("beq", 0, 0, "")), 1, api.ErrName)
	// Some items.
	full, name, arg := space(most+1), label(""), api.Item{}
	for _, l := range [][]api.Item{items(full, name, arg), items(full, arg, name), items(full, jump(0, "b"), arg)} {
		wrong(t, 0, l, 0, api.ErrFull)
		wrong(t, 0, append(items(label("a"), label("c")), l...), 2, api.ErrFull)
	}
	wrong(t, 0, items(name, arg, full), 0, api.ErrName)
	wrong(t, 0, items(name, full, arg), 0, api.ErrName)
	wrong(t, 0, items(arg, full, name), 0, api.ErrArg)
	wrong(t, 0, items(arg, name, full), 0, api.ErrArg)
	wrong(t, 0, items(label("a"), branch("beq", 0, 0, "b"), arg), 1, api.ErrName)
	// A label has no words: ahead of it there are too many, and the first item with which it is so counts.
	wrong(t, 0, items(space(most), label("a"), space(1), label("a")), 2, api.ErrFull)
	wrong(t, 0, items(space(most), label("a"), label("a"), space(1)), 2, api.ErrName)
}

// What Assemble was given is neither changed nor kept; what it tells is its own.
func TestMemory(t *testing.T) {
	given := func() []api.Item {
		return items(label("a"), words(1, 2, 3), branch("beq", 1, 2, "b"), addr(1, "a"), space(1500), words(4), label("b"))
	}
	l := given()
	spare := slices.Grow(l[1].Words, 10)
	l[1].Words = spare
	first, firstSyms := done(t, 0, l)
	want, wantSyms := slices.Clone(first), slices.Clone(firstSyms)
	for n, x := range given() {
		if y := l[n]; x.Kind != y.Kind || x.Name != y.Name || x.Ins != y.Ins || x.N != y.N || !slices.Equal(x.Words, y.Words) {
			t.Errorf("R3: item %d is changed: %+v", n, y)
		}
	}
	if !slices.Equal(spare[:cap(spare)][3:], make([]uint32, cap(spare)-3)) {
		t.Error("R3: the spare room of what was given is changed")
	}
	l[1].Words[0], l[0].Name = 77, "spoilt"
	if !slices.Equal(first, want) || !slices.Equal(firstSyms, wantSyms) {
		t.Error("R3: an answer hangs on what was given")
	}
	l[1].Words[0], l[0].Name = 1, "a"
	second, secondSyms := done(t, 0, l)
	for n := range first[:cap(first)] {
		first[:cap(first)][n] = 99
	}
	for n := range firstSyms[:cap(firstSyms)] {
		firstSyms[:cap(firstSyms)][n] = api.Sym{Name: "spoilt"}
	}
	if !slices.Equal(second, want) || !slices.Equal(secondSyms, wantSyms) || !slices.Equal(l[1].Words, []uint32{1, 2, 3}) {
		t.Error("R3: writing into an answer changed another one, or what was given")
	}
	third, _ := done(t, 0, l)
	if !slices.Equal(third, want) {
		t.Error("R1: the same items, other words")
	}
	only, _ := done(t, 0, items(l[1]))
	only[0] = 5
	if l[1].Words[0] != 1 {
		t.Error("R3: words alone are handed on")
	}
}
