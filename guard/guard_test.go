package guard

import (
	"math/rand"
	"slices"
	"testing"

	"footman/api"
)

const top = 0xffffffff // the last byte that has an address

func expectOf(t *testing.T, w [16]uint32, want [8]api.Region) {
	t.Helper()
	if l := Of(w); !slices.Equal(l, want[:]) {
		t.Errorf("4.1: Of %#x: %+v, not %+v", w, l, want)
	}
}

func expectPut(t *testing.T, l []api.Region, want [16]uint32) {
	t.Helper()
	if w, e := Put(l); w != want || e != api.OK {
		t.Errorf("4.1: Put of %+v: %#x, %v, not %#x", l, w, e, want)
	}
}

func expectRefused(t *testing.T, l []api.Region, want api.Errno) {
	t.Helper()
	if w, e := Put(l); w != [16]uint32{} || e != want {
		t.Errorf("4.1: Put of %+v: %#x, %v, not %v", l, w, e, want)
	}
}

func TestOfNoughts(t *testing.T) {
	expectOf(t, [16]uint32{}, [8]api.Region{})
}

// Each pair alone: its first word's lowest two bits say nothing, its second's are X and W.
func TestOfEachPairByHand(t *testing.T) {
	for _, c := range []struct {
		first, second uint32
		want          api.Region
	}{
		{0x100, 0x200, api.Region{Lo: 0x100, Hi: 0x200}},
		{0x100, 0x201, api.Region{Lo: 0x100, Hi: 0x200, X: true}},
		{0x100, 0x202, api.Region{Lo: 0x100, Hi: 0x200, W: true}},
		{0x100, 0x203, api.Region{Lo: 0x100, Hi: 0x200, X: true, W: true}},
		{0x101, 0x204, api.Region{Lo: 0x100, Hi: 0x204}},
		{0x102, 0x204, api.Region{Lo: 0x100, Hi: 0x204}},
		{0x103, 0x204, api.Region{Lo: 0x100, Hi: 0x204}},
		{0x104, 0x207, api.Region{Lo: 0x104, Hi: 0x204, X: true, W: true}},
		{0, 0, api.Region{}},
		{3, 0, api.Region{}},
		{0, 1, api.Region{X: true}},
		{0, 2, api.Region{W: true}},
		{0, 3, api.Region{X: true, W: true}},
		{top, top, api.Region{Lo: top - 3, Hi: top - 3, X: true, W: true}},
		{top - 3, top - 3, api.Region{Lo: top - 3, Hi: top - 3}},
		{1 << 31, 1<<31 | 1, api.Region{Lo: 1 << 31, Hi: 1 << 31, X: true}},
		{0x300, 0x102, api.Region{Lo: 0x300, Hi: 0x100, W: true}},
	} {
		for i := range 8 {
			var w [16]uint32
			var want [8]api.Region
			w[2*i], w[2*i+1] = c.first, c.second
			want[i] = c.want
			expectOf(t, w, want)
		}
	}
}

// Pairs that share a word, or are the same, or have their words in the other order, keep their places.
func TestOfPairsThatAreAlike(t *testing.T) {
	a := api.Region{Lo: 0x40, Hi: 0x80, X: true}
	expectOf(t,
		[16]uint32{0x40, 0x81, 0x80, 0x41, 0x40, 0x81, 0x41, 0x81, 0x40, 0x82, 0, 0x81, 0x40, 0, 0x40, 0x81},
		[8]api.Region{a, {Lo: 0x80, Hi: 0x40, X: true}, a, a, {Lo: 0x40, Hi: 0x80, W: true}, {Hi: 0x80, X: true}, {Lo: 0x40}, a})
}

func TestPutByHand(t *testing.T) {
	l := []api.Region{
		{Lo: 0x100, Hi: 0x200}, {Lo: 0x200, Hi: 0x300, X: true}, {Lo: 0x300, Hi: 0x400, W: true},
		{Lo: 0x400, Hi: 0x500, X: true, W: true}, {Lo: top - 3, Hi: top - 3, X: true}, {Lo: 0x600, Hi: 0x600, W: true},
		{Lo: 0x800, Hi: 0x700}, {Hi: 4},
	}
	all := [16]uint32{
		0x100, 0x200, 0x200, 0x301, 0x300, 0x402, 0x400, 0x503, top - 3, top - 2, 0x600, 0x602, 0x800, 0x700, 0, 4,
	}
	for n := range len(l) + 1 {
		var want [16]uint32
		copy(want[:], all[:2*n])
		expectPut(t, l[:n], want)
	}
	expectPut(t, nil, [16]uint32{})
	expectPut(t, []api.Region{}, [16]uint32{})
	expectPut(t, make([]api.Region, 8), [16]uint32{})
	expectPut(t, []api.Region{{}, {Lo: 8}}, [16]uint32{2: 8})
}

func TestPutRefusesTooMany(t *testing.T) {
	for _, n := range []int{9, 10, 16, 17, 1000} {
		expectRefused(t, make([]api.Region, n), api.ErrFull)
		l := slices.Repeat([]api.Region{{Lo: 0x100, Hi: 0x200, X: true}}, n)
		expectRefused(t, l, api.ErrFull)
	}
}

func TestPutRefusesWhatIsNoMultiple(t *testing.T) {
	for i := range 8 {
		for n := i + 1; n <= 8; n++ {
			for _, base := range []uint32{0, 0x100, 1 << 31, top - 3} {
				for odd := range uint32(3) {
					good := slices.Repeat([]api.Region{{Lo: 0x100, Hi: 0x200, X: true, W: true}}, n)
					lo, hi, both := slices.Clone(good), slices.Clone(good), slices.Clone(good)
					lo[i].Lo = base + odd + 1
					hi[i].Hi = base + odd + 1
					both[i].Lo, both[i].Hi = base+odd+1, base+odd+1
					expectRefused(t, lo, api.ErrAlign)
					expectRefused(t, hi, api.ErrAlign)
					expectRefused(t, both, api.ErrAlign)
				}
			}
		}
	}
}

func TestPutTooManyCountsFirst(t *testing.T) {
	for i := range 9 {
		lo, hi := make([]api.Region, 9), make([]api.Region, 9)
		lo[i].Lo, hi[i].Hi = 1, 6
		expectRefused(t, lo, api.ErrFull)
		expectRefused(t, hi, api.ErrFull)
	}
}

func someRegion(r *rand.Rand) api.Region {
	return api.Region{Lo: r.Uint32() &^ 3, Hi: r.Uint32() &^ 3, X: r.Intn(2) == 0, W: r.Intn(2) == 0}
}

func TestToldAgain(t *testing.T) {
	r := rand.New(rand.NewSource(4))
	for range 2000 {
		l := make([]api.Region, r.Intn(9))
		for i := range l {
			l[i] = someRegion(r)
		}
		w, e := Put(l)
		if e != api.OK {
			t.Fatalf("4.1: Put of %+v: %v", l, e)
		}
		var want [8]api.Region
		copy(want[:], l)
		expectOf(t, w, want)

		var row [16]uint32
		for i := range row {
			row[i] = r.Uint32()
		}
		again := row
		for i := 0; i < len(again); i += 2 {
			again[i] &^= 3
		}
		expectPut(t, Of(row), again)
	}
}

func TestWhatIsToldIsNewMemory(t *testing.T) {
	w := [16]uint32{0x100, 0x201}
	first, second := Of(w), Of(w)
	_ = append(first[:1], api.Region{Lo: 4})
	whole := first[:cap(first)]
	for i := range whole {
		whole[i] = api.Region{Lo: 8, Hi: 8}
	}
	want := [8]api.Region{{Lo: 0x100, Hi: 0x200, X: true}}
	if !slices.Equal(second, want[:]) {
		t.Error("R3: two answers share memory", second)
	}
	expectOf(t, w, want)
}

func TestWhatIsHandedInStands(t *testing.T) {
	room := []api.Region{{Lo: 0x100, Hi: 0x200, X: true}, {Lo: 0x200, Hi: 0x300}, {Lo: 1}, {Hi: 2}}
	was := slices.Clone(room)
	for n := range len(room) + 1 {
		Put(room[:n])
		Allow(room[:n], 0x200, 4, api.Read)
	}
	if !slices.Equal(room, was) {
		t.Error("R3: what was handed in is changed", room)
	}
}

type question struct {
	at, size uint32
	how      int
	want     bool
}

func expectAllow(t *testing.T, l []api.Region, asked ...question) {
	t.Helper()
	for _, q := range asked {
		if got := Allow(l, q.at, q.size, q.how); got != q.want {
			t.Errorf("4.2: Allow of %+v, %#x, %#x, %d: %v", l, q.at, q.size, q.how, got)
		}
	}
}

func TestAllowOfNoRegions(t *testing.T) {
	for _, l := range [][]api.Region{nil, {}, make([]api.Region, 8), Of([16]uint32{})} {
		for how := -1; how <= 3; how++ {
			expectAllow(t, l, question{0, 0, how, false}, question{0, 1, how, false}, question{0, 4, how, false},
				question{top, 1, how, false}, question{top, top, how, false})
		}
	}
}

func TestAllowByXAndW(t *testing.T) {
	for _, c := range []struct {
		x, w               bool
		read, write, fetch bool
	}{
		{false, false, true, false, false},
		{true, false, true, false, true},
		{false, true, true, true, false},
		{true, true, true, true, true},
	} {
		l := []api.Region{{Lo: 0x100, Hi: 0x104, X: c.x, W: c.w}}
		expectAllow(t, l, question{0x100, 4, api.Read, c.read}, question{0x100, 4, api.Write, c.write},
			question{0x100, 4, api.Fetch, c.fetch}, question{0x100, 4, -1, false}, question{0x100, 4, 3, false},
			question{0x100, 4, 4, false}, question{0x100, 4, 1 << 32, false}, question{0x100, 4, 1<<32 + 1, false},
			question{0x100, 4, 1<<32 + 2, false}, question{0x100, 4, 1<<63 - 1, false}, question{0x100, 4, -1 << 63, false})
	}
}

func TestAllowAtTheEdges(t *testing.T) {
	l := []api.Region{{Lo: 0x100, Hi: 0x200, X: true, W: true}}
	for _, how := range []int{api.Read, api.Write, api.Fetch} {
		expectAllow(t, l,
			question{0x100, 1, how, true}, question{0xff, 1, how, false}, question{0x1ff, 1, how, true},
			question{0x200, 1, how, false}, question{0x100, 0x100, how, true}, question{0x100, 0x101, how, false},
			question{0xff, 0x101, how, false}, question{0xff, 2, how, false}, question{0x1fe, 2, how, true},
			question{0x1ff, 2, how, false}, question{0xfc, 8, how, false}, question{0x1fc, 4, how, true},
			question{0x1fd, 4, how, false}, question{0xff, 0x102, how, false}, question{0, top, how, false},
			question{0, 1, how, false}, question{top, 1, how, false},
			question{0x100, 0, how, false}, question{0x180, 0, how, false}, question{0x200, 0, how, false},
			question{0, 0, how, false})
	}
}

// Each byte may lie in a region, and no region have them all: that is not allowed.
func TestAllowOfRegionsSideBySide(t *testing.T) {
	l := []api.Region{{Lo: 0x100, Hi: 0x200, X: true, W: true}, {Lo: 0x200, Hi: 0x300, X: true, W: true}}
	expectAllow(t, l, question{0x1fe, 2, api.Read, true}, question{0x1fe, 3, api.Read, false},
		question{0x1ff, 2, api.Fetch, false}, question{0x1fe, 4, api.Write, false}, question{0x200, 4, api.Write, true},
		question{0x100, 0x200, api.Read, false})
	l = append(l, api.Region{Lo: 0x1fc, Hi: 0x204})
	expectAllow(t, l, question{0x1fe, 4, api.Read, true}, question{0x1fe, 4, api.Write, false},
		question{0x1fe, 4, api.Fetch, false}, question{0x1fb, 6, api.Read, false})
}

// One region must both have the bytes and let them be asked for so.
func TestAllowIsOfOneRegion(t *testing.T) {
	l := []api.Region{{Lo: 0x100, Hi: 0x200}, {Lo: 0x180, Hi: 0x190, W: true}, {Lo: 0x1a0, Hi: 0x1b0, X: true}}
	expectAllow(t, l, question{0x100, 4, api.Write, false}, question{0x100, 4, api.Fetch, false},
		question{0x180, 4, api.Write, true}, question{0x180, 4, api.Fetch, false}, question{0x1a0, 4, api.Fetch, true},
		question{0x1a0, 4, api.Write, false}, question{0x17f, 2, api.Write, false}, question{0x17f, 2, api.Read, true})
}

func TestAllowOfEmptyRegions(t *testing.T) {
	l := []api.Region{{Lo: 0x100, Hi: 0x100, X: true, W: true}, {Lo: 0x300, Hi: 0x200, X: true, W: true}, {Lo: 0x400, X: true, W: true}}
	for _, at := range []uint32{0, 0xff, 0x100, 0x101, 0x1ff, 0x200, 0x280, 0x300, 0x301, 0x400, top} {
		for _, size := range []uint32{0, 1, 2, 4, 0x100, 1 << 31, top} {
			expectAllow(t, l, question{at, size, api.Read, false}, question{at, size, api.Write, false}, question{at, size, api.Fetch, false})
		}
	}
}

// at and size together at 2^32 and beyond it: no Hi is that far up, and nothing comes round to the bottom.
func TestAllowFarUp(t *testing.T) {
	wide := []api.Region{{Lo: 0, Hi: top, X: true, W: true}}
	expectAllow(t, wide, question{0, top, api.Read, true}, question{1, top - 1, api.Read, true}, question{top - 1, 1, api.Fetch, true},
		question{top, 1, api.Read, false}, question{1, top, api.Read, false}, question{top - 3, 4, api.Write, false},
		question{top - 3, 3, api.Write, true}, question{top - 3, 5, api.Write, false}, question{top - 3, 8, api.Read, false},
		question{2, top, api.Read, false}, question{top, top, api.Read, false}, question{1 << 31, 1 << 31, api.Fetch, false},
		question{1 << 31, 1<<31 - 1, api.Fetch, true}, question{1 << 31, 1<<31 + 8, api.Fetch, false})
	high := []api.Region{{Lo: top - 15, Hi: top - 3, W: true}, {Lo: 0, Hi: 0x100, W: true}}
	expectAllow(t, high, question{top - 7, 4, api.Read, true}, question{top - 15, 12, api.Write, true},
		question{top - 15, 13, api.Write, false}, question{top - 3, 4, api.Read, false}, question{top - 3, 8, api.Read, false},
		question{top - 7, 8, api.Read, false}, question{top - 7, 12, api.Read, false}, question{top, 2, api.Read, false})
}

// Allow has no bound of how many regions there are, nor of which multiples they begin and end at.
func TestAllowOfManyAndOfOddRegions(t *testing.T) {
	l := make([]api.Region, 20)
	for i := range l {
		l[i] = api.Region{Lo: uint32(16 * i), Hi: uint32(16*i + 5), X: i%2 == 0}
	}
	for i := range l {
		at := uint32(16 * i)
		expectAllow(t, l, question{at, 5, api.Read, true}, question{at, 6, api.Read, false},
			question{at + 5, 1, api.Read, false}, question{at, 4, api.Fetch, i%2 == 0})
	}
	expectAllow(t, []api.Region{{Lo: 3, Hi: 6}}, question{3, 3, api.Read, true}, question{2, 2, api.Read, false}, question{5, 2, api.Read, false})
}

// A second reading of the chapter: each byte is looked for in the region, one by one.
func readAgain(l []api.Region, at, size uint32, how int) bool {
	return slices.ContainsFunc(l, func(r api.Region) bool {
		for i := range int64(size) {
			if b := int64(at) + i; b >= 1<<32 || b < int64(r.Lo) || b >= int64(r.Hi) {
				return false
			}
		}
		return size > 0 && (how == api.Read || how == api.Write && r.W || how == api.Fetch && r.X)
	})
}

// Regions in a small stretch, at the bottom or at the top, so that they often touch and lie over one another.
func fewRegions(r *rand.Rand, base uint32) []api.Region {
	l := make([]api.Region, r.Intn(5))
	for i := range l {
		l[i] = someRegion(r)
		l[i].Lo, l[i].Hi = base+4*uint32(r.Intn(6)), base+4*uint32(r.Intn(6))
	}
	return l
}

func TestAllowByBytes(t *testing.T) {
	r := rand.New(rand.NewSource(42))
	for range 300 {
		base := []uint32{0, 0x1000, top - 23}[r.Intn(3)]
		l := fewRegions(r, base)
		for i := range uint32(28) {
			for size := range uint32(26) {
				for how := -1; how <= 3; how++ {
					at := base + i - 2
					expectAllow(t, l, question{at, size, how, readAgain(l, at, size, how)})
				}
			}
		}
	}
}

func TestAllowedOfSomeIsAllowedOfMore(t *testing.T) {
	r := rand.New(rand.NewSource(43))
	allowed := 0
	for range 400 {
		some := fewRegions(r, 0x1000)
		behind := slices.Concat(some, fewRegions(r, 0x1000))
		ahead := slices.Concat(fewRegions(r, 0x1000), some)
		between := slices.Insert(slices.Clone(some), r.Intn(len(some)+1), fewRegions(r, 0x1000)...)
		for i := range uint32(24) {
			for size := range uint32(9) {
				for how := -1; how <= 3; how++ {
					at := 0x1000 + i
					if !Allow(some, at, size, how) {
						continue
					}
					allowed++
					for _, more := range [][]api.Region{behind, ahead, between} {
						if !Allow(more, at, size, how) {
							t.Fatalf("4.3: Allow of %+v, %#x, %d, %d, but not of %+v", some, at, size, how, more)
						}
					}
				}
			}
		}
	}
	if allowed == 0 {
		t.Error("4.3: nothing is allowed of any")
	}
}

// Noughts behind, as Put and Of bring them, allow nothing that was not allowed ahead.
func TestNoughtsBehindAllowNoMore(t *testing.T) {
	r := rand.New(rand.NewSource(44))
	for range 200 {
		l := fewRegions(r, 0)
		w, e := Put(l)
		if e != api.OK {
			t.Fatalf("4.1: Put of %+v: %v", l, e)
		}
		told := Of(w)
		for at := range uint32(24) {
			for size := range uint32(6) {
				for how := range 3 {
					expectAllow(t, told, question{at, size, how, Allow(l, at, size, how)})
				}
			}
		}
	}
}
