package lex

import (
	"strconv"
	"strings"

	"footman/api"
)

// A reader tells the tokens of a source.
type reader struct {
	src   string
	signs map[[2]byte]int // made where the first sign may stand: names and numbers ask for none
}

// next asks for a place that lies in the source, or at its end.
func (r *reader) next(at int) (api.Token, int) {
	at = r.skip(at)
	if at == len(r.src) {
		return api.Token{Kind: api.TEnd, At: at}, at
	}
	switch c := r.src[at]; {
	case isDigit(c):
		return r.number(at)
	case isLetter(c):
		return r.name(at)
	}
	return r.sign(at)
}

// skip is the first place from at on that is in no blank and in no comment.
func (r *reader) skip(at int) int {
	for at < len(r.src) {
		switch {
		case isBlank(r.src[at]):
			at++
		case r.src[at] == '#':
			at = r.while(at, isInLine)
		default:
			return at
		}
	}
	return at
}

func (r *reader) number(at int) (api.Token, int) {
	digits, base, behind := at, 10, r.while(at, isDigit)
	if strings.HasPrefix(r.src[at:], "0x") {
		if end := r.while(at+2, isHexDigit); end > at+2 {
			digits, base, behind = at+2, 16, end
		}
	}
	n, err := strconv.ParseUint(r.src[digits:behind], base, 32)
	if end := r.while(behind, isInName); err != nil || end > behind {
		return bad(at), end
	}
	return api.Token{Kind: api.TNum, Text: r.text(at, behind), Num: uint32(n), At: at}, behind
}

func (r *reader) name(at int) (api.Token, int) {
	behind := r.while(at, isInName)
	t := api.Token{Kind: api.TName, Text: r.text(at, behind), At: at}
	if IsWord(t.Text) {
		t.Kind = api.TWord
	}
	return t, behind
}

func (r *reader) sign(at int) (api.Token, int) {
	n := r.signLen(at)
	if n == 0 {
		return bad(at), at + 1
	}
	return api.Token{Kind: api.TSign, Text: r.text(at, at+n), At: at}, at + n
}

// signLen is how long the longest sign is that stands at a place, 0: none does. A byte 0 behind a sign of one byte, or
// the end there, finds that sign itself.
func (r *reader) signLen(at int) int {
	if r.signs == nil {
		r.signs = signs()
	}
	var two [2]byte
	copy(two[:], r.src[at:])
	if n, ok := r.signs[two]; ok {
		return n
	}
	return r.signs[[2]byte{two[0]}]
}

// while is the first place from at on whose byte is not so, or the end.
func (r *reader) while(at int, so func(byte) bool) int {
	for at < len(r.src) && so(r.src[at]) {
		at++
	}
	return at
}

// text is new memory: no token keeps the source that it stood in.
func (r *reader) text(from, to int) string {
	return strings.Clone(r.src[from:to])
}

func bad(at int) api.Token {
	return api.Token{Kind: api.TBad, At: at}
}

// signs tells of each sign how many bytes it has; behind one of a single byte stands a 0.
func signs() map[[2]byte]int {
	return map[[2]byte]int{
		{'{'}: 1, {'}'}: 1, {'('}: 1, {')'}: 1, {'['}: 1, {']'}: 1, {';'}: 1, {','}: 1,
		{'='}: 1, {'=', '='}: 2, {'!', '='}: 2,
		{'<'}: 1, {'<', '='}: 2, {'<', '<'}: 2, {'>'}: 1, {'>', '='}: 2, {'>', '>'}: 2,
		{'+'}: 1, {'-'}: 1, {'*'}: 1, {'/'}: 1, {'%'}: 1, {'&'}: 1, {'^'}: 1, {'|'}: 1, {'~'}: 1,
	}
}

func isBlank(c byte) bool {
	return c == '\t' || c == '\n' || c == '\r' || c == ' '
}

func isInLine(c byte) bool {
	return c != '\n'
}

func isDigit(c byte) bool {
	return '0' <= c && c <= '9'
}

func isHexDigit(c byte) bool {
	return isDigit(c) || 'a' <= c && c <= 'f'
}

// isLetter counts `_` as one, as names do.
func isLetter(c byte) bool {
	return 'A' <= c && c <= 'Z' || 'a' <= c && c <= 'z' || c == '_'
}

func isInName(c byte) bool {
	return isLetter(c) || isDigit(c)
}
