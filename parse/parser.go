package parse

import "footman/api"

// A parser goes through tokens, and lays nodes down behind their kids.
type parser struct {
	tokens []api.Token // those that are not taken yet; the last of all never is
	nodes  []api.Node
	levels map[sign]int
	deep   int // how many statements, e's and signs ahead lie around what is next
}

// wrong tells that the next token may not stand there: a bad one takes the place of all that are left, so that nothing
// goes on from there, and whatever is wrong later on changes nothing.
func (p *parser) wrong() {
	p.tokens = []api.Token{{Kind: api.TBad, At: p.tokens[0].At}}
}

// add tells the new node's place.
func (p *parser) add(n api.Node) int {
	p.nodes = append(p.nodes, n)
	return len(p.nodes) - 1
}

// deeper reads what lies one deeper. Where it is one too many there is no node: the place told then is of none.
func (p *parser) deeper(read func() int) int {
	if p.deep == api.MaxDepth {
		p.wrong()
		return 0
	}
	p.deep++
	n := read()
	p.deep--
	return n
}

// take asks for a token that is neither the end nor bad.
func (p *parser) take() api.Token {
	t := p.tokens[0]
	p.tokens = p.tokens[1:]
	return t
}

// is tells whether that word, or sign, is next: no number and no name has the text of one.
func (p *parser) is(text string) bool {
	return p.tokens[0].Text == text
}

// may takes that word, or sign, where it is next.
func (p *parser) may(text string) bool {
	is := p.is(text)
	if is {
		p.take()
	}
	return is
}

func (p *parser) must(text string) {
	if !p.may(text) {
		p.wrong()
	}
}

func (p *parser) mustBe(kind int) api.Token {
	if p.tokens[0].Kind != kind {
		p.wrong()
		return api.Token{}
	}
	return p.take()
}

func (p *parser) name() string {
	return p.mustBe(api.TName).Text
}

func (p *parser) number() uint32 {
	return p.mustBe(api.TNum).Num
}
