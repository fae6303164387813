package image

import (
	"fmt"
	"reflect"
	"slices"
	"strings"
	"testing"

	"footman/api"
)

const (
	end = 0x200      // how many bytes sound has
	top = 0xfffffffc // the last word that has an address
)

// sound is an image that may be: its regions lie side by side, from the first word to the last one.
func sound() api.Image {
	return api.Image{
		Words:  make([]uint32, end/4),
		Kernel: api.Region{Lo: 0, Hi: 0x40},
		Keys:   api.Region{Lo: 0x80, Hi: 0x100},
		Parts: []api.Part{{
			Name: "ann",
			Code: api.Region{Lo: 0x40, Hi: 0x80, X: true},
			Data: api.Region{Lo: 0x120, Hi: 0x160, W: true},
			Keys: []api.Region{{Lo: 0x90, Hi: 0xa0}, {Lo: 0xf0, Hi: 0x100}},
			Syms: []api.Sym{{Name: "x", At: 0x15c}, {Name: "y", At: 0x120}, {Name: "ann", At: 0x120}},
		}, {
			Name: "bob",
			Code: api.Region{Lo: 0x100, Hi: 0x120, X: true},
			Data: api.Region{Lo: 0x160, Hi: 0x1a0, W: true},
			Keys: []api.Region{{Lo: 0x80, Hi: 0x90}},
			Syms: []api.Sym{{Name: "x", At: 0x160}},
		}, {
			Name: "c",
			Code: api.Region{Lo: 0x1a0, Hi: 0x1c0, X: true},
			Data: api.Region{Lo: 0x1c0, Hi: end, W: true},
			Syms: []api.Sym{{Name: "z", At: 0x1fc}},
		}},
	}
}

// bare is sound without any part's keys and syms.
func bare() api.Image {
	i := sound()
	for n := range i.Parts {
		i.Parts[n].Keys, i.Parts[n].Syms = nil, nil
	}
	return i
}

// many is an image of n parts, each with code of one word and no data.
func many(n int) api.Image {
	i := api.Image{Words: make([]uint32, n+1), Kernel: api.Region{Hi: 4}}
	for p := range n {
		at := uint32(4 * (p + 1))
		i.Parts = append(i.Parts, api.Part{
			Name: fmt.Sprint("p", p), Code: api.Region{Lo: at, Hi: at + 4, X: true}, Data: api.Region{Lo: at, Hi: at, W: true},
		})
	}
	return i
}

// placesOf tells where the regions of an image stand that 9.1 speaks of first.
func placesOf(i *api.Image) []*api.Region {
	l := []*api.Region{&i.Kernel, &i.Keys}
	for n := range i.Parts {
		l = append(l, &i.Parts[n].Code, &i.Parts[n].Data)
	}
	return l
}

// put leaves the rights of a region as they are.
func put(place *api.Region, lo, hi uint32) {
	place.Lo, place.Hi = lo, hi
}

func expectCheck(t *testing.T, i api.Image, want int) {
	t.Helper()
	if n := Check(i); n != want {
		i.Words = i.Words[:min(len(i.Words), 2)]
		t.Errorf("9.1: Check: %d, not %d: %+v", n, want, i)
	}
}

func TestCheckOfImagesThatMayBe(t *testing.T) {
	expectCheck(t, sound(), 0)
	expectCheck(t, bare(), 0)
	for n := 1; n <= api.MaxTasks; n++ {
		expectCheck(t, many(n), 0)
	}
	i := sound()
	slices.Reverse(i.Parts)
	expectCheck(t, i, 0)
	i = sound()
	for n := range i.Words {
		i.Words[n] = uint32(n) * 0x9e3779b9
	}
	expectCheck(t, i, 0)
}

func TestCheckOfTheExample(t *testing.T) {
	expectCheck(t, api.Image{}, 1)
}

func TestCheckHowManyWords(t *testing.T) {
	for n, want := range map[int]int{0: 1, api.MaxWords: 0, api.MaxWords + 1: 1, 2 * api.MaxWords: 1, 1 << 20: 1} {
		i := sound()
		i.Words = make([]uint32, n)
		expectCheck(t, i, want)
	}
	i := sound()
	i.Words = nil
	expectCheck(t, i, 1)

	one := api.Image{Words: make([]uint32, 1), Kernel: api.Region{Hi: 4}}
	expectCheck(t, one, 5)
	one.Parts = []api.Part{{Name: "p", Code: api.Region{Lo: 4, Hi: 4, X: true}, Data: api.Region{W: true}}}
	expectCheck(t, one, 5)
	one.Parts[0].Code.Hi = 8
	expectCheck(t, one, 2)
	one.Words = make([]uint32, 2)
	expectCheck(t, one, 0)
}

// All words that there may be, and each of them in a region.
func TestCheckOfTheGreatestImage(t *testing.T) {
	const all = 4 * api.MaxWords
	i := sound()
	i.Words = make([]uint32, api.MaxWords)
	i.Parts[2].Data.Hi = all
	i.Parts[2].Syms[0].At = all - 4
	expectCheck(t, i, 0)
	i.Parts[2].Syms[0].At = all
	expectCheck(t, i, 7)
	i.Parts[1].Data.Hi = all
	expectCheck(t, i, 3)
	i.Parts[2].Data.Hi = all + 4
	expectCheck(t, i, 2)
}

func TestCheckWhereRegionsEnd(t *testing.T) {
	i := sound()
	i.Words = append(i.Words, 0)
	expectCheck(t, i, 0)
	i.Words = i.Words[:end/4-1]
	expectCheck(t, i, 2)
	for n := range placesOf(&i) {
		for _, c := range []struct{ lo, hi uint32 }{
			{end - 4, end + 4}, {end, end + 4}, {end + 4, end + 4}, {end + 4, end + 8}, {0, end + 4}, {0, 4 * api.MaxWords},
			{0, top}, {top, top}, {top - 4, top}, {1 << 31, 1 << 31}, {0, 1 << 31}, {0x80, 1<<31 + 0x100},
		} {
			i := sound()
			put(placesOf(&i)[n], c.lo, c.hi)
			expectCheck(t, i, 2)
		}
	}
	for _, at := range []uint32{0, 4, 0x80, end - 4, end} {
		i := bare()
		put(&i.Parts[0].Data, at, at)
		put(&i.Keys, at, at)
		expectCheck(t, i, 0)
	}
}

func TestCheckWhatIsNoMultiple(t *testing.T) {
	i := sound()
	for n := range placesOf(&i) {
		for odd := uint32(1); odd <= 3; odd++ {
			lo, hi, both, empty := sound(), sound(), sound(), bare()
			placesOf(&lo)[n].Lo += odd
			placesOf(&hi)[n].Hi -= odd
			placesOf(&both)[n].Lo += odd
			placesOf(&both)[n].Hi -= 4 - odd
			put(placesOf(&empty)[n], 0x50+odd, 0x50+odd)
			for _, i := range []api.Image{lo, hi, both, empty} {
				expectCheck(t, i, 2)
			}
			far := sound()
			put(placesOf(&far)[n], top+odd, top+odd)
			expectCheck(t, far, 2)
		}
	}
}

func TestCheckLoAboveHi(t *testing.T) {
	i := sound()
	for n := range placesOf(&i) {
		for _, c := range []struct{ lo, hi uint32 }{{4, 0}, {end, 0}, {0x84, 0x80}, {end, end - 4}, {end + 4, end}, {top, 4}, {top, 0}} {
			i := sound()
			put(placesOf(&i)[n], c.lo, c.hi)
			expectCheck(t, i, 2)
		}
	}
}

// Each two regions, of which one has the other's first word, its last one, or all of it.
func TestCheckWhatRegionsShare(t *testing.T) {
	i := sound()
	for n := range placesOf(&i) {
		for m := range placesOf(&i) {
			if n == m {
				continue
			}
			with := *placesOf(&i)[m]
			for _, r := range []api.Region{
				{Lo: with.Lo, Hi: with.Lo + 4}, {Lo: with.Hi - 4, Hi: with.Hi}, {Lo: with.Lo + 4, Hi: with.Lo + 8},
				{Lo: with.Lo, Hi: with.Hi}, {Lo: 0, Hi: end}, {Lo: with.Hi - 4, Hi: end}, {Lo: 0, Hi: with.Lo + 4},
			} {
				i := sound()
				put(placesOf(&i)[n], r.Lo, r.Hi)
				expectCheck(t, i, 3)
			}
		}
	}
}

// Two regions that are not in each other's way in an image with room between them, up to the word that they would share.
func TestCheckRegionsSideBySide(t *testing.T) {
	wide := func() api.Image {
		i := bare()
		i.Words = make([]uint32, 0x400/4)
		put(&i.Parts[1].Data, 0x300, 0x320)
		put(&i.Parts[2].Data, 0x320, 0x340)
		return i
	}
	i := wide()
	expectCheck(t, i, 0)
	i.Parts[1].Data.Hi = 0x324
	expectCheck(t, i, 3)
	i = wide()
	i.Parts[2].Data.Lo = 0x31c
	expectCheck(t, i, 3)
	i = wide()
	put(&i.Parts[2].Data, 0x2f0, 0x300)
	expectCheck(t, i, 0)
	put(&i.Parts[2].Data, 0x2f0, 0x304)
	expectCheck(t, i, 3)
	put(&i.Parts[2].Data, 0x308, 0x310)
	expectCheck(t, i, 3)
}

// An empty region shares nothing, wherever it lies: what it may not be, others of the seven tell.
func TestCheckOfEmptyRegions(t *testing.T) {
	i := sound()
	for n := range placesOf(&i) {
		want, ofBare := 7, 0
		switch {
		case n == 0:
			want, ofBare = 4, 4
		case n == 1:
			want = 6
		case n%2 == 0:
			want, ofBare = 5, 5
		}
		for _, at := range []uint32{0, 0x44, 0x7c, 0x84, 0xfc, 0x100, 0x124, 0x1a4, 0x1fc, end} {
			i, b := sound(), bare()
			put(placesOf(&i)[n], at, at)
			put(placesOf(&b)[n], at, at)
			expectCheck(t, i, want)
			expectCheck(t, b, ofBare)
		}
	}
}

func TestCheckWhereTheKernelIs(t *testing.T) {
	for _, c := range []struct{ lo, hi uint32 }{{4, 0x40}, {0x3c, 0x40}, {0, 0}, {4, 4}, {0x40, 0x40}, {end, end}} {
		i := sound()
		put(&i.Kernel, c.lo, c.hi)
		expectCheck(t, i, 4)
	}
	i := sound()
	i.Kernel.Hi = 4
	expectCheck(t, i, 0)
}

func TestCheckXAndW(t *testing.T) {
	for _, x := range []bool{false, true} {
		for _, w := range []bool{false, true} {
			want := func(ok bool) int {
				if ok {
					return 0
				}
				return 4
			}
			for n := range sound().Parts {
				i := sound()
				i.Parts[n].Code.X, i.Parts[n].Code.W = x, w
				expectCheck(t, i, want(x && !w))
				for _, i := range []api.Image{sound(), bare()} {
					i.Parts[n].Data.X, i.Parts[n].Data.W = x, w
					expectCheck(t, i, want(!x && w))
					put(&i.Parts[n].Data, 0, 0)
					i.Parts[n].Syms = nil
					expectCheck(t, i, want(!x && w))
				}
				for k := range i.Parts[n].Keys {
					i := sound()
					i.Parts[n].Keys[k].X, i.Parts[n].Keys[k].W = x, w
					expectCheck(t, i, want(!x && !w))
				}
			}
			i := sound()
			i.Kernel.X, i.Kernel.W = x, w
			expectCheck(t, i, 0)
			i = sound()
			i.Keys.X, i.Keys.W = x, w
			expectCheck(t, i, 0)
		}
	}
}

func TestCheckHowManyParts(t *testing.T) {
	for _, n := range []int{0, api.MaxTasks + 1, api.MaxTasks + 2, 100} {
		expectCheck(t, many(n), 5)
	}
	i := sound()
	for _, l := range [][]api.Part{nil, {}} {
		i.Parts = l
		expectCheck(t, i, 5)
	}
}

func TestCheckNamesOfParts(t *testing.T) {
	for n := range sound().Parts {
		i := sound()
		i.Parts[n].Name = ""
		expectCheck(t, i, 5)
		for m := range n {
			i := sound()
			i.Parts[n].Name = i.Parts[m].Name
			expectCheck(t, i, 5)
		}
	}
	i := sound()
	i.Parts[0].Name, i.Parts[1].Name, i.Parts[2].Name = "a", "A", "a "
	expectCheck(t, i, 0)
	i.Parts[0].Name, i.Parts[1].Name, i.Parts[2].Name = "\x00", "\xff", "\x00\x00"
	expectCheck(t, i, 0)
}

// A key at each place of its region, ahead of it, behind it: it has to begin at no multiple.
func TestCheckWhereKeysLie(t *testing.T) {
	for lo := uint32(0x60); lo <= 0x120; lo++ {
		i := bare()
		i.Parts[2].Keys = []api.Region{{Lo: lo, Hi: lo + 16}}
		want := 6
		if 0x80 <= lo && lo <= 0xf0 {
			want = 0
		}
		expectCheck(t, i, want)
	}
	for _, c := range []struct{ lo, hi uint32 }{{0, 0}, {0, 16}, {end - 16, end}, {end, end + 16}, {top - 12, top + 3}, {top - 4, 8}, {top - 11, 4}, {1<<32 - 16, 0}, {0x100, 0x100}} {
		i := sound()
		put(&i.Parts[1].Keys[0], c.lo, c.hi)
		expectCheck(t, i, 6)
	}
	i := sound()
	i.Keys.Lo = 0x84
	i.Parts[0].Code.Hi = 0x84
	expectCheck(t, i, 6)
	i = sound()
	i.Keys.Hi = 0xfc
	expectCheck(t, i, 6)
	i = sound()
	put(&i.Keys, 0x80, 0x80)
	expectCheck(t, i, 6)
}

func TestCheckHowLongKeysAre(t *testing.T) {
	for n := range uint32(0x30) {
		want := 6
		if n == 4*api.KeyWords {
			want = 0
		}
		i := bare()
		i.Parts[1].Keys = []api.Region{{Lo: 0xb0, Hi: 0xb0 + n}}
		expectCheck(t, i, want)
		i.Parts[1].Keys = []api.Region{{Lo: 0x80, Hi: 0x90}, {Lo: 0xe0 - n, Hi: 0xe0}}
		expectCheck(t, i, want)
	}
	i := sound()
	put(&i.Parts[0].Keys[1], 0x100, 0xf0)
	expectCheck(t, i, 6)
	put(&i.Parts[0].Keys[1], 0x80, 0x100)
	expectCheck(t, i, 6)
}

// Two keys as far from one another as d, in one part and in two, in either order.
func TestCheckWhatKeysShare(t *testing.T) {
	for d := -20; d <= 20; d++ {
		want := 6
		if d <= -16 || d >= 16 {
			want = 0
		}
		a := api.Region{Lo: 0xb0, Hi: 0xc0}
		b := api.Region{Lo: uint32(0xb0 + d), Hi: uint32(0xc0 + d)}
		i := bare()
		i.Parts[1].Keys = []api.Region{a, b}
		expectCheck(t, i, want)
		i.Parts[1].Keys = []api.Region{{Lo: 0x80, Hi: 0x90}, a, {Lo: 0xf0, Hi: 0x100}, b}
		expectCheck(t, i, want)
		i = bare()
		i.Parts[0].Keys, i.Parts[2].Keys = []api.Region{a}, []api.Region{b}
		expectCheck(t, i, want)
		i.Parts[0].Keys, i.Parts[2].Keys = []api.Region{b, {Lo: 0x80, Hi: 0x90}}, []api.Region{{Lo: 0xf0, Hi: 0x100}, a}
		expectCheck(t, i, want)
	}
}

func TestCheckHowManyKeys(t *testing.T) {
	for n := range 9 {
		for p := range 3 {
			i := bare()
			for k := range n {
				lo := uint32(0x80 + 16*k)
				i.Parts[p].Keys = append(i.Parts[p].Keys, api.Region{Lo: lo, Hi: lo + 16})
			}
			want := 6
			if n <= 6 {
				want = 0
			}
			expectCheck(t, i, want)
			if n < 2 {
				continue
			}
			i.Parts[(p+1)%3].Keys, i.Parts[p].Keys = i.Parts[p].Keys[:2], i.Parts[p].Keys[2:]
			expectCheck(t, i, 0)
		}
	}
}

func TestCheckWhereSymsAre(t *testing.T) {
	for n := range sound().Parts {
		data := sound().Parts[n].Data
		for at := data.Lo - 8; at <= min(data.Hi+8, end+8); at++ {
			i := sound()
			i.Parts[n].Syms = append(i.Parts[n].Syms, api.Sym{Name: "new", At: at})
			want := 7
			if data.Lo <= at && at < data.Hi && at%4 == 0 {
				want = 0
			}
			expectCheck(t, i, want)
			i.Parts[n].Syms = []api.Sym{{Name: "new", At: at}}
			expectCheck(t, i, want)
		}
		for _, at := range []uint32{0, end, top, top + 3, 1<<31 + data.Lo, sound().Parts[n].Code.Lo} {
			i := sound()
			i.Parts[n].Syms[0].At = at
			expectCheck(t, i, 7)
		}
		i := bare()
		put(&i.Parts[n].Data, data.Lo, data.Lo)
		i.Parts[n].Syms = []api.Sym{{Name: "x", At: data.Lo}}
		expectCheck(t, i, 7)
	}
}

func TestCheckNamesOfSyms(t *testing.T) {
	for n := range sound().Parts {
		i := sound()
		i.Parts[n].Syms[len(i.Parts[n].Syms)-1].Name = ""
		expectCheck(t, i, 7)
		for m := range i.Parts[n].Syms {
			i := sound()
			again := api.Sym{Name: i.Parts[n].Syms[m].Name, At: i.Parts[n].Data.Lo}
			i.Parts[n].Syms = append(i.Parts[n].Syms, api.Sym{Name: "other", At: again.At}, again)
			expectCheck(t, i, 7)
			i.Parts[n].Syms[len(i.Parts[n].Syms)-1].Name += "1"
			expectCheck(t, i, 0)
		}
	}
	i := sound()
	for n := range i.Parts {
		lo := i.Parts[n].Data.Lo
		i.Parts[n].Syms = []api.Sym{{Name: "x", At: lo}, {Name: "X", At: lo}, {Name: "x ", At: lo + 4}, {Name: "c", At: lo + 4}}
	}
	expectCheck(t, i, 0)
}

// One way each to make one of the seven not so, and no other; whichever of them are taken, the first one is told.
func TestCheckTellsTheFirst(t *testing.T) {
	turns := []func(i *api.Image){
		func(i *api.Image) { i.Words = make([]uint32, api.MaxWords+1) },
		func(i *api.Image) { i.Keys.Hi-- },
		func(i *api.Image) { i.Parts[1].Data.Lo -= 4 },
		func(i *api.Image) { i.Parts[2].Code.W = true },
		func(i *api.Image) { i.Parts[2].Name = "bob" },
		func(i *api.Image) { i.Parts[0].Keys[0].Hi += 4 },
		func(i *api.Image) { i.Parts[1].Syms[0].Name = "" },
	}
	for which := range 1 << len(turns) {
		i, want := sound(), 0
		for n, do := range turns {
			if which>>n&1 == 0 {
				continue
			}
			do(&i)
			if want == 0 {
				want = n + 1
			}
		}
		expectCheck(t, i, want)
	}
}

// What is not so of the last part, key or sym counts ahead of what a later one of the seven says of the first one.
func TestCheckGoesByTheSevenNotByParts(t *testing.T) {
	i := many(api.MaxTasks + 1)
	i.Parts[0].Name = ""
	expectCheck(t, i, 5)
	i.Parts[8].Keys = []api.Region{{X: true}}
	expectCheck(t, i, 4)
	i.Parts[8].Data = api.Region{Lo: 4, Hi: 8}
	expectCheck(t, i, 3)
	i.Parts[8].Data = api.Region{Lo: 8, Hi: 4}
	expectCheck(t, i, 2)
	i.Words = nil
	expectCheck(t, i, 1)

	i = sound()
	i.Parts[0].Syms[0].At = 0
	i.Parts[2].Keys = []api.Region{{Lo: 0x80, Hi: 0x90}}
	expectCheck(t, i, 6)
	i.Parts[2].Name = ""
	expectCheck(t, i, 5)
}

func TestPart(t *testing.T) {
	i := sound()
	for want, p := range i.Parts {
		if at, ok := Part(i, p.Name); at != want || !ok {
			t.Errorf("9.2: Part %q: %d, %v", p.Name, at, ok)
		}
	}
	for n := range 2 * api.MaxTasks {
		i := many(2 * api.MaxTasks)
		if at, ok := Part(i, fmt.Sprint("p", n)); at != n || !ok {
			t.Errorf("9.2: Part %d: %d, %v", n, at, ok)
		}
	}
}

func TestPartOfNoSuchName(t *testing.T) {
	for _, name := range []string{"", "x", "y", "z", "an", "ann ", "annb", "Ann", "C", "cc", "\x00"} {
		for _, i := range []api.Image{sound(), bare(), many(api.MaxTasks), {}, {Parts: []api.Part{}}} {
			if at, ok := Part(i, name); at != 0 || ok {
				t.Errorf("9.2: Part %q: %d, %v", name, at, ok)
			}
		}
	}
}

// Part asks nothing of an image but its parts' names.
func TestPartOfAnImageThatMayNotBe(t *testing.T) {
	i := api.Image{Parts: []api.Part{{Name: "a"}, {}, {Name: "b"}, {Name: "a"}, {Name: "b"}}}
	for name, want := range map[string]int{"a": 0, "": 1, "b": 2} {
		if at, ok := Part(i, name); at != want || !ok {
			t.Errorf("9.2: Part %q: %d, %v", name, at, ok)
		}
	}
}

func TestSym(t *testing.T) {
	for _, p := range sound().Parts {
		for _, s := range p.Syms {
			if at, ok := Sym(p, s.Name); at != s.At || !ok {
				t.Errorf("9.2: Sym %q: %#x, %v", s.Name, at, ok)
			}
		}
	}
	if at, ok := Sym(sound().Parts[0], "x"); at != 0x15c || !ok {
		t.Errorf("9.2: Sym x of the first part: %#x, %v", at, ok)
	}
	if at, ok := Sym(sound().Parts[1], "x"); at != 0x160 || !ok {
		t.Errorf("9.2: Sym x of the second part: %#x, %v", at, ok)
	}
}

func TestSymOfNoSuchName(t *testing.T) {
	parts := append(sound().Parts, bare().Parts...)
	for _, name := range []string{"", "bob", "c", "q", "X", "x ", "xy", "an", "\x00"} {
		for _, p := range append(parts, api.Part{}, api.Part{Syms: []api.Sym{}}) {
			if at, ok := Sym(p, name); at != 0 || ok {
				t.Errorf("9.2: Sym %q of %q: %#x, %v", name, p.Name, at, ok)
			}
		}
	}
	if at, ok := Sym(sound().Parts[1], "y"); at != 0 || ok {
		t.Errorf("9.2: Sym of another part: %#x, %v", at, ok)
	}
}

// Sym asks nothing of a part but its syms, and tells an address 0 as any other.
func TestSymOfAPartThatMayNotBe(t *testing.T) {
	p := api.Part{Syms: []api.Sym{{Name: "a", At: top + 3}, {At: 7}, {Name: "b"}, {Name: "a", At: 4}, {Name: "b", At: 8}}}
	for name, want := range map[string]uint32{"a": top + 3, "": 7, "b": 0} {
		if at, ok := Sym(p, name); at != want || !ok {
			t.Errorf("9.2: Sym %q: %#x, %v", name, at, ok)
		}
	}
}

// roomy is sound with spare room behind each of its lists.
func roomy() api.Image {
	i := sound()
	i.Words = slices.Grow(i.Words, 3)
	i.Parts = append(make([]api.Part, 0, 7), i.Parts...)
	for n := range i.Parts {
		i.Parts[n].Keys = append(make([]api.Region, 0, 5), i.Parts[n].Keys...)
		i.Parts[n].Syms = append(make([]api.Sym, 0, 5), i.Parts[n].Syms...)
	}
	return i
}

// whole is an image with all the spare room of its lists told too.
func whole(i api.Image) api.Image {
	i.Words = slices.Clone(i.Words[:cap(i.Words)])
	i.Parts = slices.Clone(i.Parts[:cap(i.Parts)])
	for n, p := range i.Parts {
		i.Parts[n].Keys = slices.Clone(p.Keys[:cap(p.Keys)])
		i.Parts[n].Syms = slices.Clone(p.Syms[:cap(p.Syms)])
	}
	return i
}

func TestWhatIsHandedInStands(t *testing.T) {
	for _, odd := range []func(i *api.Image){
		func(i *api.Image) {},
		func(i *api.Image) { i.Parts[0].Keys[0].Hi++ },
		func(i *api.Image) { i.Parts[1].Syms[0].At++ },
		func(i *api.Image) { i.Parts[2].Data.Hi++ },
	} {
		i := roomy()
		odd(&i)
		was := whole(i)
		Check(i)
		Part(i, "bob")
		Part(i, "nobody")
		Sym(i.Parts[0], "y")
		Sym(i.Parts[0], "none")
		if !reflect.DeepEqual(whole(i), was) {
			t.Errorf("R3: what was handed in is changed: %+v", i)
		}
	}
}

// Each call hangs on what it is given alone: an image that is turned about is another one.
func TestNothingIsKept(t *testing.T) {
	i := sound()
	for range 3 {
		expectCheck(t, i, 0)
		i.Parts[1].Keys[0].Hi += 4
		expectCheck(t, i, 6)
		i.Parts[1].Keys[0].Hi -= 4
		i.Parts[2].Name, i.Parts[0].Syms[1].At = "d", 0x130
		expectCheck(t, i, 0)
		if at, ok := Part(i, "d"); at != 2 || !ok {
			t.Error("R3: Part of a name that is new", at, ok)
		}
		if at, ok := Part(i, "c"); at != 0 || ok {
			t.Error("R3: Part of a name that was", at, ok)
		}
		if at, ok := Sym(i.Parts[0], "y"); at != 0x130 || !ok {
			t.Error("R3: Sym at an address that is new", at, ok)
		}
		i.Parts[2].Name, i.Parts[0].Syms[1].At = "c", 0x120
		if at, ok := Sym(i.Parts[0], "y"); at != 0x120 || !ok {
			t.Error("R3: Sym at its address again", at, ok)
		}
	}
}

// Lists as long as nobody makes them: each call goes through them about once.
func TestCheckOfMuch(t *testing.T) {
	const n = 1 << 18
	i := many(1)
	i.Parts = slices.Repeat(i.Parts, n)
	expectCheck(t, i, 3)
	for p := range i.Parts[1:] {
		put(&i.Parts[p+1].Code, 4, 4)
	}
	expectCheck(t, i, 5)

	i = sound()
	i.Parts[2].Keys = make([]api.Region, n)
	expectCheck(t, i, 6)
	i.Parts[2].Keys[n-1].X = true
	expectCheck(t, i, 4)

	i = sound()
	for k := range n {
		i.Parts[2].Syms = append(i.Parts[2].Syms, api.Sym{Name: fmt.Sprint("z", k), At: 0x1c0})
	}
	expectCheck(t, i, 0)
	if at, ok := Sym(i.Parts[2], fmt.Sprint("z", n-1)); at != 0x1c0 || !ok {
		t.Error("9.2: Sym of the last of many", at, ok)
	}
	i.Parts[2].Syms = append(i.Parts[2].Syms, api.Sym{Name: "z7", At: 0x1c0})
	expectCheck(t, i, 7)

	i = sound()
	i.Parts[0].Name, i.Parts[1].Name = strings.Repeat("a", n), strings.Repeat("a", n-1)+"b"
	expectCheck(t, i, 0)
	i.Parts[2].Name = strings.Repeat("a", n)
	expectCheck(t, i, 5)
}
