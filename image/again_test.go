package image

import (
	"math/rand"
	"slices"
	"testing"

	"footman/api"
	"footman/guard"
)

// A second reading of chapter 9: the seven one by one, regions against regions by numbers without bound.
func checkAgain(i api.Image) int {
	all := []api.Region{i.Kernel, i.Keys}
	for _, p := range i.Parts {
		all = append(all, p.Code, p.Data)
	}
	for n, so := range []bool{
		len(i.Words) > 0 && len(i.Words) < api.MaxWords+1,
		!slices.ContainsFunc(all, func(r api.Region) bool { return !lies(r, int64(len(i.Words))) }),
		apart(all),
		i.Kernel.Lo == 0 && i.Kernel.Hi != 0 && !slices.ContainsFunc(i.Parts, wrongRights),
		len(i.Parts) > 0 && len(i.Parts) < api.MaxTasks+1 && !slices.ContainsFunc(i.Parts, hasNoCode) && named(namesOfParts(i)),
		keysAgain(i),
		!slices.ContainsFunc(i.Parts, func(p api.Part) bool { return !symsAgain(p) }),
	} {
		if !so {
			return n + 1
		}
	}
	return 0
}

func lies(r api.Region, words int64) bool {
	return r.Lo&3 == 0 && r.Hi&3 == 0 && r.Lo <= r.Hi && int64(r.Hi) <= 4*words
}

// apart tells whether no two of l have a byte that both have.
func apart(l []api.Region) bool {
	for n, a := range l {
		for _, b := range l[:n] {
			if int64(min(a.Hi, b.Hi))-int64(max(a.Lo, b.Lo)) > 0 {
				return false
			}
		}
	}
	return true
}

func wrongRights(p api.Part) bool {
	return !p.Code.X || p.Code.W || p.Data.X || !p.Data.W ||
		slices.ContainsFunc(p.Keys, func(r api.Region) bool { return r.X || r.W })
}

func hasNoCode(p api.Part) bool {
	return p.Code.Hi == p.Code.Lo
}

func namesOfParts(i api.Image) []string {
	var l []string
	for _, p := range i.Parts {
		l = append(l, p.Name)
	}
	return l
}

func named(l []string) bool {
	l = slices.Sorted(slices.Values(l))
	return !slices.Contains(l, "") && len(slices.Compact(slices.Clone(l))) == len(l)
}

func keysAgain(i api.Image) bool {
	var all []api.Region
	for _, p := range i.Parts {
		if len(p.Keys) > 6 {
			return false
		}
		all = append(all, p.Keys...)
	}
	for _, k := range all {
		if k.Lo < i.Keys.Lo || k.Hi > i.Keys.Hi || int64(k.Hi)-int64(k.Lo) != 16 {
			return false
		}
	}
	return apart(all)
}

func symsAgain(p api.Part) bool {
	var l []string
	for _, s := range p.Syms {
		if s.At&3 != 0 || s.At < p.Data.Lo || s.At > p.Data.Hi || s.At == p.Data.Hi {
			return false
		}
		l = append(l, s.Name)
	}
	return named(l)
}

// someImage is an image that may be, laid out by chance.
func someImage(r *rand.Rand) api.Image {
	var i api.Image
	for n := range 1 + r.Intn(4) {
		i.Parts = append(i.Parts, api.Part{Name: string(rune('a' + n)), Code: api.Region{X: true}, Data: api.Region{W: true}})
	}
	at := uint32(4 * (1 + r.Intn(3)))
	i.Kernel.Hi = at
	places := placesOf(&i)[1:]
	r.Shuffle(len(places), func(a, b int) { places[a], places[b] = places[b], places[a] })
	for _, p := range places {
		size := uint32(4 * r.Intn(4))
		if p.X {
			size += 4
		}
		if p == &i.Keys {
			size = uint32(16*r.Intn(5) + 4*r.Intn(2))
		}
		at += uint32(4 * r.Intn(2))
		put(p, at, at+size)
		at += size
	}
	i.Words = make([]uint32, int(at)/4+r.Intn(2))
	for k := i.Keys.Lo + uint32(r.Intn(int(i.Keys.Hi-i.Keys.Lo)%16+1)); k+16 <= i.Keys.Hi; k += 16 {
		p := &i.Parts[r.Intn(len(i.Parts))]
		p.Keys = append(p.Keys, api.Region{Lo: k, Hi: k + 16})
	}
	for n := range i.Parts {
		p := &i.Parts[n]
		for at := p.Data.Lo; at < p.Data.Hi; at += 4 {
			p.Syms = append(p.Syms, api.Sym{Name: string(rune('a' + len(p.Syms))), At: at})
		}
	}
	return i
}

// odd is an end of a region that is near another one, or far from all.
func odd(r *rand.Rand, was uint32) uint32 {
	switch r.Intn(6) {
	case 0:
		return was + 1 + uint32(r.Intn(3))
	case 1:
		return was + 4
	case 2:
		return was - 4
	case 3:
		return uint32(r.Intn(40)) * 4
	case 4:
		return was + 16
	}
	return top - uint32(r.Intn(3))*4
}

func turnRegion(r *rand.Rand, p *api.Region) {
	switch r.Intn(6) {
	case 0:
		p.Lo = odd(r, p.Lo)
	case 1:
		p.Hi = odd(r, p.Hi)
	case 2:
		p.Lo = odd(r, p.Lo)
		p.Hi = p.Lo
	case 3:
		by := odd(r, p.Lo) - p.Lo
		p.Lo, p.Hi = p.Lo+by, p.Hi+by
	case 4:
		p.X = !p.X
	case 5:
		p.W = !p.W
	}
}

// turn changes one thing of an image, by chance.
func turn(r *rand.Rand, i *api.Image) {
	if len(i.Parts) == 0 {
		i.Words = nil
		return
	}
	p := &i.Parts[r.Intn(len(i.Parts))]
	switch n := r.Intn(20); {
	case n < 3:
		places := placesOf(i)
		turnRegion(r, places[r.Intn(len(places))])
	case n < 9 && len(p.Keys) > 0:
		turnRegion(r, &p.Keys[r.Intn(len(p.Keys))])
	case n == 9 && i.Keys.Hi-i.Keys.Lo >= 16:
		p.Keys = append(p.Keys, api.Region{Lo: i.Keys.Lo, Hi: i.Keys.Lo + 16})
	case n < 13 && len(p.Syms) > 0:
		s := &p.Syms[r.Intn(len(p.Syms))]
		s.At = odd(r, s.At)
	case n < 15 && len(p.Syms) > 0:
		p.Syms[r.Intn(len(p.Syms))].Name = []string{"", "a", "b", "q"}[r.Intn(4)]
	case n < 18:
		p.Name = []string{"", "a", "b", "q"}[r.Intn(4)]
	case n == 18:
		i.Parts = [][]api.Part{nil, slices.Repeat(i.Parts, 3), i.Parts[:1]}[r.Intn(3)]
	case n == 19:
		i.Words = make([]uint32, []int{0, max(len(i.Words)-1, 0), len(i.Words) + 1, api.MaxWords + 1}[r.Intn(4)])
	}
}

func TestCheckAgain(t *testing.T) {
	r := rand.New(rand.NewSource(9))
	var told [8]int
	for range 40000 {
		i := someImage(r)
		expectCheck(t, i, 0)
		for range r.Intn(4) {
			turn(r, &i)
		}
		want := checkAgain(i)
		expectCheck(t, i, want)
		told[want]++
	}
	for n, times := range told {
		if times < 200 {
			t.Errorf("9.1: %d is told %d times alone", n, times)
		}
	}
}

// guards are the regions that a part is let use.
func guards(p api.Part) []api.Region {
	return append([]api.Region{p.Code, p.Data}, p.Keys...)
}

// Each byte of an image that may be, asked for by each two parts.
func expectWriterAlone(t *testing.T, i api.Image) (written int) {
	t.Helper()
	for n, a := range i.Parts {
		for at := range uint32(4*len(i.Words) + 4) {
			if !guard.Allow(guards(a), at, 1, api.Write) {
				continue
			}
			written++
			for m, b := range i.Parts {
				if m != n && guard.Allow(guards(b), at, 1, api.Read) {
					t.Fatalf("9.3: %q may write %#x, and %q read it: %+v", a.Name, at, b.Name, i)
				}
			}
		}
	}
	return written
}

func TestWhatOneWritesNoOtherReads(t *testing.T) {
	if expectWriterAlone(t, sound()) != end-0x1c0+0x80 {
		t.Error("9.3: not all data may be written")
	}
	r := rand.New(rand.NewSource(93))
	written, turned := 0, 0
	for range 20000 {
		i := someImage(r)
		times := r.Intn(6)
		for range times {
			turn(r, &i)
		}
		if Check(i) != 0 {
			continue
		}
		written += expectWriterAlone(t, i)
		if times > 0 {
			turned++
		}
	}
	if written < 1000 || turned < 1000 {
		t.Error("9.3: little is held", written, turned)
	}
}

// Each way in which one part could read what another one may write is told by Check.
func TestNoImageLetsAnotherRead(t *testing.T) {
	for _, do := range []func(i *api.Image, written api.Region){
		func(i *api.Image, w api.Region) { put(&i.Parts[1].Code, w.Lo, w.Hi) },
		func(i *api.Image, w api.Region) { put(&i.Parts[1].Data, w.Lo, w.Hi) },
		func(i *api.Image, w api.Region) { put(&i.Parts[1].Keys[0], w.Lo, w.Lo+16) },
		func(i *api.Image, w api.Region) { put(&i.Keys, w.Lo, w.Hi); put(&i.Parts[1].Keys[0], w.Lo, w.Lo+16) },
		func(i *api.Image, w api.Region) { i.Parts[1].Keys = append(i.Parts[1].Keys, w) },
		func(i *api.Image, w api.Region) { put(&i.Parts[0].Data, 0x80, 0x100) },
		func(i *api.Image, w api.Region) { put(&i.Parts[0].Data, 0x100, 0x120) },
		func(i *api.Image, w api.Region) { i.Parts[0].Code.W = true; put(&i.Parts[1].Data, 0x7c, 0x80) },
		func(i *api.Image, w api.Region) { i.Parts[0].Keys[1].W = true; put(&i.Parts[1].Keys[0], 0xf0, 0x100) },
	} {
		i := sound()
		do(&i, i.Parts[0].Data)
		if n := Check(i); n == 0 {
			t.Errorf("9.3: this image may be: %+v", i)
		}
	}
}
