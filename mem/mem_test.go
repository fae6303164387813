package mem

import (
	"encoding/binary"
	"math/rand"
	"slices"
	"testing"

	"footman/api"
)

func made(t *testing.T, l ...uint32) *Mem {
	t.Helper()
	m, e := New(l)
	if m == nil || e != api.OK {
		t.Fatalf("3.1: New of %d words: %v, %v", len(l), m, e)
	}
	return m
}

func expectLoad(t *testing.T, m *Mem, at uint32, size int, sign bool, want uint32) {
	t.Helper()
	if x, e := m.Load(at, size, sign); x != want || e != api.OK {
		t.Errorf("3.1: Load of %#x, %d, %v: %#x, %v, not %#x", at, size, sign, x, e, want)
	}
}

func expectWords(t *testing.T, m *Mem, want ...uint32) {
	t.Helper()
	if l := m.Words(); !slices.Equal(l, want) {
		t.Errorf("3.1: Words: %#x, not %#x", l, want)
	}
}

func TestExample(t *testing.T) {
	expectLoad(t, made(t, 258), 1, 1, false, 1)
}

func TestNewOfTooFewAndTooMany(t *testing.T) {
	for _, l := range [][]uint32{nil, {}, make([]uint32, 0, 9), make([]uint32, api.MaxWords+1), make([]uint32, 4*api.MaxWords)} {
		if m, e := New(l); m != nil || e != api.ErrArg {
			t.Errorf("3.1: New of %d words: %v, %v", len(l), m, e)
		}
	}
}

func TestNewOfOneWordAndOfMaxWords(t *testing.T) {
	one := made(t, 0xfedcba98)
	if n := one.Size(); n != 4 {
		t.Error("3.1: Size of one word", n)
	}
	expectWords(t, one, 0xfedcba98)

	l := make([]uint32, api.MaxWords)
	for i := range l {
		l[i] = 0x9e3779b9 * uint32(i+1)
	}
	most := made(t, l...)
	if n := most.Size(); n != 4*api.MaxWords {
		t.Error("3.1: Size of MaxWords", n)
	}
	if !slices.Equal(most.Words(), l) {
		t.Error("3.1: Words of MaxWords")
	}
	last := l[api.MaxWords-1]
	expectLoad(t, most, 4*api.MaxWords-4, 4, false, last)
	expectLoad(t, most, 4*api.MaxWords-2, 2, false, last>>16)
	expectLoad(t, most, 4*api.MaxWords-1, 1, false, last>>24)
	if x, e := most.Load(4*api.MaxWords, 1, false); x != 0 || e != api.ErrNone {
		t.Error("3.1: Load behind MaxWords", x, e)
	}
	if e := most.Store(4*api.MaxWords-1, 1, 0x5a); e != api.OK {
		t.Error("3.1: Store of the last byte", e)
	}
	expectLoad(t, most, 4*api.MaxWords-4, 4, false, last&0xffffff|0x5a000000)
}

func TestLoadByHand(t *testing.T) {
	m := made(t, 0x80818283, 0x7f00ff01, 0xffff8000)
	for _, c := range []struct {
		at            uint32
		size          int
		plain, signed uint32
	}{
		{0, 1, 0x83, 0xffffff83},
		{1, 1, 0x82, 0xffffff82},
		{2, 1, 0x81, 0xffffff81},
		{3, 1, 0x80, 0xffffff80},
		{4, 1, 0x01, 0x01},
		{5, 1, 0xff, 0xffffffff},
		{6, 1, 0x00, 0x00},
		{7, 1, 0x7f, 0x7f},
		{11, 1, 0xff, 0xffffffff},
		{0, 2, 0x8283, 0xffff8283},
		{2, 2, 0x8081, 0xffff8081},
		{4, 2, 0xff01, 0xffffff01},
		{6, 2, 0x7f00, 0x7f00},
		{8, 2, 0x8000, 0xffff8000},
		{10, 2, 0xffff, 0xffffffff},
		{0, 4, 0x80818283, 0x80818283},
		{4, 4, 0x7f00ff01, 0x7f00ff01},
		{8, 4, 0xffff8000, 0xffff8000},
	} {
		expectLoad(t, m, c.at, c.size, false, c.plain)
		expectLoad(t, m, c.at, c.size, true, c.signed)
	}
	expectWords(t, m, 0x80818283, 0x7f00ff01, 0xffff8000)
}

func TestStoreByHand(t *testing.T) {
	for _, c := range []struct {
		at   uint32
		size int
		x    uint32
		want [2]uint32
	}{
		{0, 1, 0xaabbccdd, [2]uint32{0x112233dd, 0x55667788}},
		{1, 1, 0xaabbccdd, [2]uint32{0x1122dd44, 0x55667788}},
		{2, 1, 0xaabbccdd, [2]uint32{0x11dd3344, 0x55667788}},
		{3, 1, 0xaabbccdd, [2]uint32{0xdd223344, 0x55667788}},
		{4, 1, 0xaabbccdd, [2]uint32{0x11223344, 0x556677dd}},
		{7, 1, 0xaabbccdd, [2]uint32{0x11223344, 0xdd667788}},
		{0, 2, 0xaabbccdd, [2]uint32{0x1122ccdd, 0x55667788}},
		{2, 2, 0xaabbccdd, [2]uint32{0xccdd3344, 0x55667788}},
		{4, 2, 0xaabbccdd, [2]uint32{0x11223344, 0x5566ccdd}},
		{6, 2, 0xaabbccdd, [2]uint32{0x11223344, 0xccdd7788}},
		{0, 4, 0xaabbccdd, [2]uint32{0xaabbccdd, 0x55667788}},
		{4, 4, 0xaabbccdd, [2]uint32{0x11223344, 0xaabbccdd}},
		{3, 1, 0xffffff00, [2]uint32{0x00223344, 0x55667788}},
		{2, 2, 0xffff0000, [2]uint32{0x00003344, 0x55667788}},
		{4, 4, 0, [2]uint32{0x11223344, 0}},
	} {
		m := made(t, 0x11223344, 0x55667788)
		if e := m.Store(c.at, c.size, c.x); e != api.OK {
			t.Errorf("3.1: Store of %d, %d: %v", c.at, c.size, e)
		}
		expectWords(t, m, c.want[:]...)
		if n := m.Size(); n != 8 {
			t.Error("3.1: Size behind a Store", n)
		}
	}
}

type refusal struct {
	at   uint32
	size int
	e    api.Errno
}

// What memory of two words refuses; where several things are wrong, the first that the chapter names counts.
func refusals() []refusal {
	return []refusal{
		{0, 0, api.ErrArg}, {0, 3, api.ErrArg}, {0, 5, api.ErrArg}, {0, 8, api.ErrArg}, {0, 16, api.ErrArg},
		{0, -1, api.ErrArg}, {0, -2, api.ErrArg}, {0, -4, api.ErrArg}, {0, 1 << 62, api.ErrArg},
		{0, -1 << 63, api.ErrArg}, {0, 1<<32 + 1, api.ErrArg}, {0, 1<<32 + 2, api.ErrArg}, {0, 1<<32 + 4, api.ErrArg},
		{0, 1 << 32, api.ErrArg},

		{1, 2, api.ErrAlign}, {3, 2, api.ErrAlign}, {7, 2, api.ErrAlign},
		{1, 4, api.ErrAlign}, {2, 4, api.ErrAlign}, {3, 4, api.ErrAlign}, {6, 4, api.ErrAlign},

		{8, 1, api.ErrNone}, {9, 1, api.ErrNone}, {8, 2, api.ErrNone}, {10, 2, api.ErrNone}, {8, 4, api.ErrNone},
		{12, 4, api.ErrNone}, {1 << 18, 4, api.ErrNone}, {1 << 31, 1, api.ErrNone}, {1 << 31, 4, api.ErrNone},
		{0xffffffff, 1, api.ErrNone}, {0xfffffffe, 2, api.ErrNone}, {0xfffffffc, 4, api.ErrNone},

		{1, 3, api.ErrArg}, {9, 8, api.ErrArg}, {0xffffffff, 0, api.ErrArg}, {8, -4, api.ErrArg},
		{9, 2, api.ErrAlign}, {9, 4, api.ErrAlign}, {10, 4, api.ErrAlign},
		{0xffffffff, 2, api.ErrAlign}, {0xffffffff, 4, api.ErrAlign}, {0xfffffffe, 4, api.ErrAlign},
	}
}

func TestRefusals(t *testing.T) {
	m := made(t, 0x80818283, 0xffffffff)
	for _, c := range refusals() {
		for _, sign := range []bool{false, true} {
			if x, e := m.Load(c.at, c.size, sign); x != 0 || e != c.e {
				t.Errorf("3.1: Load of %#x, %d, %v: %#x, %v, not %v", c.at, c.size, sign, x, e, c.e)
			}
		}
		for _, x := range []uint32{0, 0x12345678} {
			if e := m.Store(c.at, c.size, x); e != c.e {
				t.Errorf("3.1: Store of %#x, %d: %v, not %v", c.at, c.size, e, c.e)
			}
		}
		expectWords(t, m, 0x80818283, 0xffffffff)
	}
}

func TestMethodsOfNil(t *testing.T) {
	var m *Mem
	if n := m.Size(); n != 0 {
		t.Error("3.1: Size of nil", n)
	}
	if l := m.Words(); len(l) != 0 {
		t.Error("3.1: Words of nil", l)
	}
	for _, c := range append(refusals(), refusal{at: 0, size: 1}, refusal{at: 0, size: 2}, refusal{at: 4, size: 4}) {
		if x, e := m.Load(c.at, c.size, true); x != 0 || e != api.ErrNone {
			t.Errorf("3.1: Load of nil, %#x, %d: %#x, %v", c.at, c.size, x, e)
		}
		if e := m.Store(c.at, c.size, 1); e != api.ErrNone {
			t.Errorf("3.1: Store of nil, %#x, %d: %v", c.at, c.size, e)
		}
	}
}

func TestNothingHandedInIsChangedOrKept(t *testing.T) {
	room := []uint32{1, 2, 3, 4}
	m := made(t, room[:2]...)
	if e := m.Store(4, 4, 99); e != api.OK {
		t.Fatal("3.1: Store", e)
	}
	if !slices.Equal(room, []uint32{1, 2, 3, 4}) {
		t.Error("R3: what was handed in is changed", room)
	}
	room[0] = 77
	expectWords(t, m, 1, 99)
}

func TestWordsAreNewMemory(t *testing.T) {
	m := made(t, 1, 2)
	first, second := m.Words(), m.Words()
	first[0] = 9
	_ = append(first[:1], 8)
	whole := second[:cap(second)]
	for i := range whole {
		whole[i] = 7
	}
	expectWords(t, m, 1, 2)
	if !slices.Equal(first, []uint32{9, 8}) {
		t.Error("R3: two answers share memory", first)
	}
	told := m.Words()
	if e := m.Store(0, 4, 5); e != api.OK || told[0] != 1 {
		t.Error("R3: what was told hangs on a Store", e, told)
	}
}

func TestTwoDoNotTouchOneAnother(t *testing.T) {
	l := []uint32{1, 2}
	a, b := made(t, l...), made(t, l...)
	if e := a.Store(0, 1, 0xff); e != api.OK {
		t.Fatal("3.1: Store", e)
	}
	expectWords(t, a, 0xff, 2)
	expectWords(t, b, 1, 2)
	if e := b.Store(0, 1, 0xff); e != api.OK {
		t.Fatal("3.1: Store", e)
	}
	if !slices.Equal(a.Words(), b.Words()) {
		t.Error("R5: the same calls tell another thing", a.Words(), b.Words())
	}
}

// A second reading of the chapter: bytes by encoding/binary, and a sign by the integer kinds of that size.
func readAgain(bytes []byte, size int, sign bool) uint32 {
	switch {
	case size == 1 && sign:
		return uint32(int8(bytes[0]))
	case size == 1:
		return uint32(bytes[0])
	case size == 2 && sign:
		return uint32(int16(binary.LittleEndian.Uint16(bytes)))
	case size == 2:
		return uint32(binary.LittleEndian.Uint16(bytes))
	}
	return binary.LittleEndian.Uint32(bytes)
}

func writeAgain(bytes []byte, size int, x uint32) {
	var all [4]byte
	binary.LittleEndian.PutUint32(all[:], x)
	copy(bytes, all[:size])
}

func TestLoadedIsWhatWasStoredLast(t *testing.T) {
	const words = 5
	r := rand.New(rand.NewSource(3))
	m := made(t, make([]uint32, words)...)
	bytes := make([]byte, 4*words)
	for range 4000 {
		size := 1 << r.Intn(3)
		at := r.Intn(4*words/size) * size
		x := r.Uint32()
		if e := m.Store(uint32(at), size, x); e != api.OK {
			t.Fatalf("3.2: Store of %d, %d: %v", at, size, e)
		}
		writeAgain(bytes[at:], size, x)
		for _, size := range []int{1, 2, 4} {
			for at := 0; at < len(bytes); at += size {
				for _, sign := range []bool{false, true} {
					want := readAgain(bytes[at:], size, sign)
					if x, e := m.Load(uint32(at), size, sign); x != want || e != api.OK {
						t.Fatalf("3.2: Load of %d, %d, %v: %#x, %v, not %#x", at, size, sign, x, e, want)
					}
				}
			}
		}
		for i, x := range m.Words() {
			if x != readAgain(bytes[4*i:], 4, false) {
				t.Fatalf("3.2: Words: word %d is %#x", i, x)
			}
		}
	}
}

// All addresses near the edges, of all sizes near those that there are, against the chapter's order of errors.
func TestWhichAddressesThereAre(t *testing.T) {
	m := made(t, 1, 2, 3)
	var ats []uint32
	for i := range uint32(40) {
		ats = append(ats, i, -i-1, 1<<18-20+i, 1<<31-20+i)
	}
	for _, at := range ats {
		for size := -9; size <= 9; size++ {
			want := api.OK
			switch {
			case !slices.Contains([]int{1, 2, 4}, size):
				want = api.ErrArg
			case int64(at)%int64(size) != 0:
				want = api.ErrAlign
			case int64(at) > 11:
				want = api.ErrNone
			}
			if _, e := m.Load(at, size, false); e != want {
				t.Errorf("3.1: Load of %#x, %d: %v, not %v", at, size, e, want)
			}
			if e := m.Store(at, size, 0); e != want {
				t.Errorf("3.1: Store of %#x, %d: %v, not %v", at, size, e, want)
			}
		}
	}
}
