package lex

import (
	"fmt"
	"math/big"
	"math/rand"
	"regexp"
	"slices"
	"strings"
	"testing"

	"footman/api"
)

// A second reading of chapter 10: patterns, signs tried from the longest on, numbers without bound.
type reading struct {
	between, digits, more, name *regexp.Regexp
}

func newReading() reading {
	return reading{
		between: regexp.MustCompile(`^(?:[\x09\x0a\x0d\x20]|#[^\x0a]*(?:\x0a|\z))*`),
		digits:  regexp.MustCompile(`^(?:0x[0-9a-f]+|[0-9]+)`),
		more:    regexp.MustCompile(`^[A-Za-z_0-9]`),
		name:    regexp.MustCompile(`^[A-Za-z_][A-Za-z_0-9]*`),
	}
}

func (r reading) next(src string, at int) api.Token {
	if at < 0 {
		at = 0
	} else if at > len(src) {
		at = len(src)
	}
	at += len(r.between.FindString(src[at:]))
	rest := src[at:]
	if rest == "" {
		return tok(api.TEnd, "", at)
	}
	if s := r.digits.FindString(rest); s != "" {
		return r.number(rest, s, at)
	}
	if s := r.name.FindString(rest); slices.Contains(allWords, s) {
		return tok(api.TWord, s, at)
	} else if s != "" {
		return tok(api.TName, s, at)
	}
	for n := 2; n > 0; n-- {
		if len(rest) >= n && slices.Contains(allSigns, rest[:n]) {
			return tok(api.TSign, rest[:n], at)
		}
	}
	return tok(api.TBad, "", at)
}

func (r reading) number(rest, s string, at int) api.Token {
	n := new(big.Int)
	if hex, ok := strings.CutPrefix(s, "0x"); ok {
		n.SetString(hex, 16)
	} else {
		n.SetString(s, 10)
	}
	if n.BitLen() > 32 || r.more.MatchString(rest[len(s):]) {
		return tok(api.TBad, "", at)
	}
	return num(s, uint32(n.Uint64()), at)
}

func (r reading) all(src string) []api.Token {
	var l []api.Token
	for at := 0; ; at = l[len(l)-1].At + len(l[len(l)-1].Text) {
		l = append(l, r.next(src, at))
		if k := l[len(l)-1].Kind; k == api.TEnd || k == api.TBad {
			return l
		}
	}
}

// expectAgain holds what Next tells of src at a place against r.
func expectAgain(t *testing.T, r reading, src string, at int) api.Token {
	t.Helper()
	want := r.next(src, at)
	if want.Kind == api.TBad {
		expectBad(t, src, at, want.At)
	} else {
		expectToken(t, src, at, want)
	}
	return want
}

func expectAllAgain(t *testing.T, r reading, src string) {
	t.Helper()
	if l, want := All(src), r.all(src); !slices.Equal(l, want) {
		t.Fatalf("10.2: All(%q): %+v, not %+v", src, l, want)
	}
}

func expectIsAgain(t *testing.T, r reading, s string) {
	t.Helper()
	isWord := slices.Contains(allWords, s)
	if IsWord(s) != isWord || IsName(s) != (s != "" && r.name.FindString(s) == s && !isWord) {
		t.Fatalf("10.1: IsWord(%q): %v, IsName: %v", s, IsWord(s), IsName(s))
	}
}

// Each text of up to two bytes, and at each place.
func TestAgainEveryTwoBytes(t *testing.T) {
	r := newReading()
	expectAgain(t, r, "", 0)
	eachByte(func(a string) {
		expectAgain(t, r, a, 0)
		expectIsAgain(t, r, a)
		expectAllAgain(t, r, a)
		eachByte(func(b string) {
			expectAgain(t, r, a+b, 0)
			expectAgain(t, r, a+b, 1)
			expectIsAgain(t, r, a+b)
		})
		if t.Failed() {
			t.FailNow()
		}
	})
}

// Each text of five bytes out of few that mean something side by side.
func TestAgainEveryFiveOfFew(t *testing.T) {
	r := newReading()
	const few = "0x1fg_ \n#<=!\x00"
	var src [5]byte
	var fill func(n int)
	fill = func(n int) {
		if n == len(src) {
			expectAgain(t, r, string(src[:]), 0)
			return
		}
		for _, c := range []byte(few) {
			src[n] = c
			fill(n + 1)
		}
	}
	fill(0)
}

// someSource is of tokens, blanks, comments, and now and then what is neither.
func someSource(r *rand.Rand) string {
	pick := func(l ...string) string { return l[r.Intn(len(l))] }
	var s strings.Builder
	for range r.Intn(20) {
		switch n := r.Intn(41); {
		case n < 6:
			s.WriteString(pick(allWords...))
		case n < 11:
			s.WriteString(pick("a", "b_1", "_", "X9", "tasks", "i", "xf", "G"))
		case n < 14:
			s.WriteString(fmt.Sprint(r.Int63() >> r.Intn(63)))
		case n < 17:
			fmt.Fprintf(&s, "0x%x", r.Int63()>>r.Intn(63))
		case n < 18:
			s.WriteString(pick("4294967295", "4294967296", "0xffffffff", "0x100000000", "0x", "0", "00", "0000000000000000009"))
		case n < 26:
			s.WriteString(pick(allSigns...))
		case n < 28:
			s.WriteString(pick("# x = 1 ; \xff\n", "#\n", "# 1 # 2\n", "#", "# z"))
		case n < 40:
			s.WriteString(pick(" ", "\n", "\t", "\r", "  ", "\r\n"))
		default:
			s.WriteString(pick("!", "\x00", "\x0b", "\x80", "é", "@", ".", "\"", "$"))
		}
	}
	return s.String()
}

func TestAgainSourcesOfChance(t *testing.T) {
	chance, r := rand.New(rand.NewSource(10)), newReading()
	var kinds [api.TBad + 1]int
	for range 20000 {
		src := someSource(chance)
		expectAllAgain(t, r, src)
		expectIsAgain(t, r, src)
		for at := -1; at <= len(src)+1; at++ {
			kinds[expectAgain(t, r, src, at).Kind]++
		}
		if t.Failed() {
			t.FailNow()
		}
	}
	for kind, n := range kinds {
		if n < 10000 {
			t.Errorf("10.1: only %d tokens of kind %d", n, kind)
		}
	}
}

// Of every place of a source All tells in which token it stands, or that it stands in blanks and comments.
func TestTokensStandOneBehindTheOther(t *testing.T) {
	chance, r := rand.New(rand.NewSource(103)), newReading()
	for range 20000 {
		src := someSource(chance)
		end := 0
		l := All(src)
		for n, x := range l {
			if x.At < end || x.At > len(src) {
				t.Fatalf("10.3: token %d of %q: %+v, but the one ahead ends at %d", n, src, x, end)
			}
			if s := src[end:x.At]; r.between.FindString(s) != s {
				t.Fatalf("10.3: between tokens of %q stands %q", src, s)
			}
			end = x.At + len(x.Text)
			if src[x.At:end] != x.Text {
				t.Fatalf("10.3: %+v does not stand in %q", x, src)
			}
			last := n == len(l)-1
			if ends := x.Kind == api.TEnd || x.Kind == api.TBad; ends != last || last != (x.Text == "") {
				t.Fatalf("10.2: token %d of %q: %+v", n, src, x)
			}
		}
		if x := l[len(l)-1]; x.Kind == api.TEnd && x.At != len(src) {
			t.Fatalf("10.1: the end of %q: %+v", src, x)
		}
	}
}

// Behind a blank ahead of them, and behind a comment, the same tokens stand, only later.
func TestWhatStandsAheadMovesTokens(t *testing.T) {
	chance := rand.New(rand.NewSource(1010))
	for range 3000 {
		src := someSource(chance)
		for _, ahead := range []string{" ", "\r\n", "# 1 a !\n", "#\n\t", "; a 1 "} {
			var more []api.Token
			if ahead[0] == ';' {
				more = All(ahead)[:3]
			}
			for _, x := range All(src) {
				x.At += len(ahead)
				more = append(more, x)
			}
			if l := All(ahead + src); !slices.Equal(l, more) {
				t.Fatalf("10.2: All(%q): %+v, not %+v", ahead+src, l, more)
			}
		}
	}
}
