package csr

import (
	"math"
	"math/rand"
	"testing"

	"footman/api"
)

const ones = 0xffffffff

// Registers that are all different, and none of them 0.
func some() api.Regs {
	r := api.Regs{
		PC: 0x40, User: true, Status: 0x1808, Ie: 0x80, Tvec: 0x100, Scratch: 0x5a5a5a5a,
		Epc: 0x44, Cause: 0x80000007, Tval: 0xdeadbeef,
	}
	for i := range r.X {
		r.X[i] = 0x1000 + uint32(i)
	}
	for i := range r.Guard {
		r.Guard[i] = 0x2000 + uint32(i)
	}
	return r
}

// Registers of which each bit may be anything, those of Status that Write never sets, too.
func anyRegs(r *rand.Rand) api.Regs {
	s := api.Regs{
		PC: r.Uint32(), User: r.Intn(2) == 0, Status: r.Uint32(), Ie: r.Uint32(), Tvec: r.Uint32(), Scratch: r.Uint32(),
		Epc: r.Uint32(), Cause: r.Uint32(), Tval: r.Uint32(),
	}
	for i := range s.X {
		s.X[i] = r.Uint32()
	}
	for i := range s.Guard {
		s.Guard[i] = r.Uint32()
	}
	return s
}

func expectRead(t *testing.T, r api.Regs, n, now int, due bool, want uint32) {
	t.Helper()
	if x, e := Read(r, n, now, due); x != want || e != api.OK {
		t.Errorf("5.1: Read of %#x, %d, %v: %#x, %v, not %#x", n, now, due, x, e, want)
	}
}

func expectWrite(t *testing.T, r api.Regs, n int, x uint32, want api.Regs) {
	t.Helper()
	if s, e := Write(r, n, x); s != want || e != api.OK {
		t.Errorf("5.1: Write of %#x, %#x: %+v, %v, not %+v", n, x, s, e, want)
	}
}

func expectTrap(t *testing.T, r api.Regs, cause, val uint32, want api.Regs) {
	t.Helper()
	if s := Trap(r, cause, val); s != want {
		t.Errorf("5.2: Trap of %+v: %+v, not %+v", r, s, want)
	}
}

func expectRet(t *testing.T, r, want api.Regs) {
	t.Helper()
	if s := Ret(r); s != want {
		t.Errorf("5.2: Ret of %+v: %+v, not %+v", r, s, want)
	}
}

func TestExample(t *testing.T) {
	expectRead(t, api.Regs{}, api.CIp, 0, true, 128)
}

func TestReadOfEach(t *testing.T) {
	for _, due := range []bool{false, true} {
		for _, now := range []int{0, 77} {
			r := some()
			expectRead(t, r, api.CStatus, now, due, 0x1808)
			expectRead(t, r, api.CIe, now, due, 0x80)
			expectRead(t, r, api.CTvec, now, due, 0x100)
			expectRead(t, r, api.CScratch, now, due, 0x5a5a5a5a)
			expectRead(t, r, api.CEpc, now, due, 0x44)
			expectRead(t, r, api.CCause, now, due, 0x80000007)
			expectRead(t, r, api.CTval, now, due, 0xdeadbeef)
			for i := range 16 {
				expectRead(t, r, api.CGuard+i, now, due, 0x2000+uint32(i))
			}
		}
	}
}

// What stands in a register is read as it stands, bits that Write would not have put there, too.
func TestReadHidesNoBits(t *testing.T) {
	r := api.Regs{Status: ones, Ie: ones, Tvec: ones, Scratch: ones, Epc: ones, Cause: ones, Tval: ones}
	for _, n := range []int{api.CStatus, api.CIe, api.CTvec, api.CScratch, api.CEpc, api.CCause, api.CTval} {
		expectRead(t, r, n, 0, false, ones)
		expectRead(t, api.Regs{}, n, ones, true, 0)
	}
	for i := range 16 {
		expectRead(t, r, api.CGuard+i, 0, false, 0)
		s := api.Regs{}
		s.Guard[i] = ones
		expectRead(t, s, api.CGuard+i, 0, false, ones)
	}
}

func TestReadOfIp(t *testing.T) {
	for _, r := range []api.Regs{{}, some(), {Ie: ones}, {Status: ones}} {
		for _, now := range []int{0, 1, 1 << 40, -1} {
			expectRead(t, r, api.CIp, now, true, 128)
			expectRead(t, r, api.CIp, now, false, 0)
		}
	}
}

func TestReadOfCycle(t *testing.T) {
	for _, c := range []struct {
		now  int
		want uint32
	}{
		{0, 0}, {1, 1}, {12, 12}, {1 << 31, 1 << 31}, {1<<32 - 1, ones}, {1 << 32, 0}, {1<<32 + 1, 1}, {1<<33 + 1<<31, 1 << 31},
		{0x123456789abcdef0, 0x9abcdef0}, {math.MaxInt, ones}, {-1, ones}, {-1 << 32, 0}, {math.MinInt, 0}, {math.MinInt + 5, 5},
	} {
		expectRead(t, api.Regs{}, api.CCycle, c.now, false, c.want)
		expectRead(t, some(), api.CCycle, c.now, true, c.want)
	}
}

func TestWriteOfEach(t *testing.T) {
	r := some()
	for _, c := range []struct {
		n    int
		x    uint32
		want func(s *api.Regs)
	}{
		{api.CStatus, 0x88, func(s *api.Regs) { s.Status = 0x88 }},
		{api.CIe, 0, func(s *api.Regs) { s.Ie = 0 }},
		{api.CTvec, 0x200, func(s *api.Regs) { s.Tvec = 0x200 }},
		{api.CScratch, 0x12345677, func(s *api.Regs) { s.Scratch = 0x12345677 }},
		{api.CEpc, 0x300, func(s *api.Regs) { s.Epc = 0x300 }},
		{api.CCause, 0x12345677, func(s *api.Regs) { s.Cause = 0x12345677 }},
		{api.CTval, 0x12345677, func(s *api.Regs) { s.Tval = 0x12345677 }},
		{api.CScratch, ones, func(s *api.Regs) { s.Scratch = ones }},
		{api.CCause, ones, func(s *api.Regs) { s.Cause = ones }},
		{api.CTval, ones, func(s *api.Regs) { s.Tval = ones }},
		{api.CScratch, 0, func(s *api.Regs) { s.Scratch = 0 }},
		{api.CCause, 0, func(s *api.Regs) { s.Cause = 0 }},
		{api.CTval, 0, func(s *api.Regs) { s.Tval = 0 }},
	} {
		want := r
		c.want(&want)
		expectWrite(t, r, c.n, c.x, want)
	}
	for i := range 16 {
		for _, x := range []uint32{0, 3, 0x12345677, ones} {
			want := r
			want.Guard[i] = x
			expectWrite(t, r, api.CGuard+i, x, want)
			expectRead(t, want, api.CGuard+i, 0, false, x)
		}
	}
	if r != some() {
		t.Error("R3: what was handed in is changed", r)
	}
}

func TestWriteOfStatus(t *testing.T) {
	for _, c := range []struct{ x, want uint32 }{
		{0, 0}, {1 << 3, 1 << 3}, {1 << 7, 1 << 7}, {1<<3 | 1<<7, 0x88},
		{1 << 11, 0}, {1 << 12, 0}, {1<<11 | 1<<12, 0x1800},
		{1<<3 | 1<<11, 1 << 3}, {1<<7 | 1<<12, 1 << 7}, {0x888, 0x88}, {0x1088, 0x88},
		{0x1808, 0x1808}, {0x1880, 0x1880}, {0x1888, 0x1888}, {ones, 0x1888},
		{ones &^ 0x1888, 0}, {ones &^ (1 << 11), 0x88}, {ones &^ (1 << 12), 0x88}, {ones &^ (1 << 3), 0x1880}, {ones &^ (1 << 7), 0x1808},
	} {
		for _, old := range []uint32{0, 0x1888, 0x800, ones} {
			r := some()
			r.Status = old
			want := r
			want.Status = c.want
			expectWrite(t, r, api.CStatus, c.x, want)
			expectRead(t, want, api.CStatus, 0, false, c.want)
		}
	}
	for i := range 32 {
		want := some()
		want.Status = 0
		if i == 3 || i == 7 {
			want.Status = 1 << i
		}
		expectWrite(t, some(), api.CStatus, 1<<i, want)
	}
}

func TestWriteOfIe(t *testing.T) {
	for _, old := range []uint32{0, 0x80, ones} {
		r := some()
		r.Ie = old
		for i := range 32 {
			want := r
			want.Ie = 0
			if i == 7 {
				want.Ie = 0x80
			}
			expectWrite(t, r, api.CIe, 1<<i, want)
		}
		want := r
		want.Ie = 0x80
		expectWrite(t, r, api.CIe, ones, want)
		expectWrite(t, r, api.CIe, 0x80, want)
		want.Ie = 0
		expectWrite(t, r, api.CIe, ones&^0x80, want)
	}
}

func TestWriteOfTvecAndEpc(t *testing.T) {
	for _, c := range []struct{ x, want uint32 }{
		{0, 0}, {1, 0}, {2, 0}, {3, 0}, {4, 4}, {5, 4}, {6, 4}, {7, 4}, {8, 8}, {0x1237, 0x1234}, {1<<31 | 3, 1 << 31}, {ones, ones - 3},
	} {
		for _, old := range []uint32{0, 3, ones} {
			r := some()
			r.Tvec, r.Epc = old, old
			tvec, epc := r, r
			tvec.Tvec, epc.Epc = c.want, c.want
			expectWrite(t, r, api.CTvec, c.x, tvec)
			expectWrite(t, r, api.CEpc, c.x, epc)
		}
	}
}

func TestWriteOfWhatIsOnlyRead(t *testing.T) {
	for _, r := range []api.Regs{{}, some()} {
		for _, n := range []int{api.CIp, api.CCycle} {
			for _, x := range []uint32{0, 1, 128, ones} {
				if s, e := Write(r, n, x); s != r || e != api.ErrKind {
					t.Errorf("5.1: Write of %#x, %#x: %+v, %v", n, x, s, e)
				}
			}
		}
	}
}

func expectNone(t *testing.T, n int) {
	t.Helper()
	for _, r := range []api.Regs{{}, some()} {
		for _, due := range []bool{false, true} {
			if x, e := Read(r, n, 9, due); x != 0 || e != api.ErrNone {
				t.Errorf("5.1: Read of %#x: %#x, %v", n, x, e)
			}
		}
		for _, x := range []uint32{0, ones} {
			if s, e := Write(r, n, x); s != r || e != api.ErrNone {
				t.Errorf("5.1: Write of %#x: %+v, %v", n, s, e)
			}
		}
	}
}

// The numbers of the registers once more, as api has them.
func there(n int) bool {
	switch n {
	case 0x300, 0x304, 0x305, 0x340, 0x341, 0x342, 0x343, 0x344, 0xc00:
		return true
	}
	return n >= 0x7c0 && n <= 0x7cf
}

func TestNumbersOfNoRegister(t *testing.T) {
	for n := -5000; n <= 5000; n++ {
		if !there(n) {
			expectNone(t, n)
			continue
		}
		if _, e := Read(some(), n, 9, true); e != api.OK {
			t.Errorf("5.1: Read of %#x: %v", n, e)
		}
		expectNone(t, -n)
		expectNone(t, n+1<<12)
		expectNone(t, n+1<<32)
		expectNone(t, n-1<<32)
	}
	for _, n := range []int{-1, api.CGuard - 1, api.CGuard + 16, 1 << 40, math.MaxInt, math.MinInt, math.MinInt + api.CStatus} {
		expectNone(t, n)
	}
}

func TestTrapByHand(t *testing.T) {
	for _, c := range []struct {
		user         bool
		status, want uint32
	}{
		{false, 0, 0x1800}, {false, 0x8, 0x1880}, {false, 0x80, 0x1800}, {false, 0x88, 0x1880},
		{false, 0x1800, 0x1800}, {false, 0x1888, 0x1880}, {false, 0x800, 0x1800}, {false, 0x1000, 0x1800},
		{true, 0, 0}, {true, 0x8, 0x80}, {true, 0x80, 0}, {true, 0x88, 0x80},
		{true, 0x1800, 0}, {true, 0x1888, 0x80}, {true, 0x800, 0}, {true, 0x1000, 0},
		{false, ones, ones &^ 0x8}, {true, ones, ones &^ 0x1808},
		{false, ones &^ 0x1888, ones &^ 0x88}, {true, ones &^ 0x1888, ones &^ 0x1888},
	} {
		r := some()
		r.User, r.Status = c.user, c.status
		want := r
		want.PC, want.Epc, want.Cause, want.Tval, want.User, want.Status = 0x100, 0x40, 8, 3, false, c.want
		expectTrap(t, r, 8, 3, want)
	}
	expectTrap(t, api.Regs{PC: 0x40, User: true, Tvec: 0x100, Status: 0x8, Scratch: 5}, 8, 3,
		api.Regs{PC: 0x100, Tvec: 0x100, Status: 0x80, Scratch: 5, Epc: 0x40, Cause: 8, Tval: 3})
	expectTrap(t, api.Regs{PC: 0x44, Tvec: 0x100, Status: 0x80}, 0x80000007, 0,
		api.Regs{PC: 0x100, Tvec: 0x100, Status: 0x1800, Epc: 0x44, Cause: 0x80000007})
}

// A PC that is no multiple of 4 is what a trap may be of: it is kept whole.
func TestTrapKeepsAllBits(t *testing.T) {
	r := api.Regs{PC: ones, Tvec: ones - 1, Epc: 7, Cause: 7, Tval: 7}
	expectTrap(t, r, ones, ones, api.Regs{PC: ones - 1, Tvec: ones - 1, Epc: ones, Cause: ones, Tval: ones, Status: 0x1800})
	expectTrap(t, r, 0, 0, api.Regs{PC: ones - 1, Tvec: ones - 1, Epc: ones, Status: 0x1800})
}

func TestRetByHand(t *testing.T) {
	for _, c := range []struct {
		status, want uint32
		user         bool
	}{
		{0, 0x80, true}, {0x8, 0x80, true}, {0x80, 0x88, true}, {0x88, 0x88, true},
		{0x1800, 0x80, false}, {0x1808, 0x80, false}, {0x1880, 0x88, false}, {0x1888, 0x88, false},
		{0x800, 0x80, false}, {0x1000, 0x80, true}, {0x880, 0x88, false}, {0x1080, 0x88, true},
		{ones, ones &^ 0x1800, false}, {ones &^ 0x800, ones &^ 0x1800, true}, {ones &^ 0x1888, ones &^ 0x1808, true},
	} {
		for _, user := range []bool{false, true} {
			r := some()
			r.User, r.Status = user, c.status
			want := r
			want.PC, want.User, want.Status = 0x44, c.user, c.want
			expectRet(t, r, want)
		}
	}
	expectRet(t, api.Regs{PC: 4, Epc: ones}, api.Regs{PC: ones, Epc: ones, User: true, Status: 0x80})
	expectRet(t, api.Regs{PC: 4, Status: 0x1800}, api.Regs{Status: 0x80})
}

func bit(x uint32, n int) bool {
	return x/uint32(math.Pow(2, float64(n)))%2 == 1
}

// A second reading of the chapter: Status bit by bit, those that it does not name as they were.
func statusOf(old uint32, named map[int]bool) uint32 {
	var s uint32
	for n := range 32 {
		is, ok := named[n]
		if !ok {
			is = bit(old, n)
		}
		if is {
			s += uint32(math.Pow(2, float64(n)))
		}
	}
	return s
}

func TestTrapAndRetReadAgain(t *testing.T) {
	r := rand.New(rand.NewSource(5))
	for range 5000 {
		s, cause, val := anyRegs(r), r.Uint32(), r.Uint32()
		trap := s
		trap.Epc, trap.Cause, trap.Tval, trap.PC, trap.User = s.PC, cause, val, s.Tvec, false
		trap.Status = statusOf(s.Status, map[int]bool{3: false, 7: bit(s.Status, 3), 11: !s.User, 12: !s.User})
		expectTrap(t, s, cause, val, trap)

		ret := s
		ret.PC, ret.User = s.Epc, !bit(s.Status, 11)
		ret.Status = statusOf(s.Status, map[int]bool{3: bit(s.Status, 7), 7: true, 11: false, 12: false})
		expectRet(t, s, ret)
	}
}

func TestRetOfTrapIsWhereItWas(t *testing.T) {
	r := rand.New(rand.NewSource(53))
	for i := range 5000 {
		s, cause, val := anyRegs(r), r.Uint32(), r.Uint32()
		s.User = i%2 == 0
		back := Ret(Trap(s, cause, val))
		if back.PC != s.PC || back.User != s.User || bit(back.Status, 3) != bit(s.Status, 3) {
			t.Fatalf("5.3: Ret of Trap of %+v: %+v", s, back)
		}
		want := s
		want.Epc, want.Cause, want.Tval = s.PC, cause, val
		want.Status = statusOf(s.Status, map[int]bool{7: true, 11: false, 12: false})
		if back != want {
			t.Fatalf("5.3: Ret of Trap of %+v: %+v, not %+v", s, back, want)
		}
	}
}

// A trap within a trap: the kernel that writes CStatus and CEpc as it read them comes back to User nevertheless.
func TestRetOfTrapWithinTrap(t *testing.T) {
	for _, status := range []uint32{0, 0x8, 0x80, 0x88} {
		user := some()
		user.User, user.Status = true, status
		first := Trap(user, 8, 0)
		inner := Ret(Trap(first, 2, 1))
		if inner.PC != first.PC || inner.User {
			t.Errorf("5.3: Ret of the inner Trap: %+v", inner)
		}
		for _, n := range []int{api.CStatus, api.CEpc} {
			x, e := Read(first, n, 0, false)
			if e != api.OK {
				t.Fatalf("5.1: Read of %#x: %v", n, e)
			}
			if inner, e = Write(inner, n, x); e != api.OK {
				t.Fatalf("5.1: Write of %#x: %v", n, e)
			}
		}
		if back := Ret(inner); back.PC != user.PC || !back.User || bit(back.Status, 3) != bit(status, 3) {
			t.Errorf("5.3: Ret of the outer Trap: %+v", back)
		}
	}
}

func TestSameCallsTellTheSame(t *testing.T) {
	r := rand.New(rand.NewSource(55))
	for range 200 {
		s, n, x := anyRegs(r), api.CGuard+r.Intn(18)-1, r.Uint32()
		first, e := Write(s, n, x)
		for range 5 {
			if again, f := Write(s, n, x); again != first || f != e {
				t.Fatalf("R1: Write of %#x: %+v, %v, then %+v, %v", n, first, e, again, f)
			}
		}
	}
}
