package parse

import "footman/api"

// A sign stands between two, or ahead of one: `-` may do both.
type sign struct {
	text  string
	ahead bool
}

// levels tells how tight each sign binds, from the loosest one on.
func levels() map[sign]int {
	return map[sign]int{
		{text: "|"}:  1,
		{text: "^"}:  2,
		{text: "&"}:  3,
		{text: "=="}: 4, {text: "!="}: 4,
		{text: "<"}: 5, {text: "<="}: 5, {text: ">"}: 5, {text: ">="}: 5,
		{text: "<<"}: 6, {text: ">>"}: 6,
		{text: "+"}: 7, {text: "-"}: 7,
		{text: "*"}: 8, {text: "/"}: 8, {text: "%"}: 8,
		{text: "~", ahead: true}: 9, {text: "-", ahead: true}: 9,
	}
}

func (p *parser) e() int {
	return p.deeper(func() int { return p.binary(1) })
}

// binary reads what signs of at least that level bind, from the left.
func (p *parser) binary(least int) int {
	left := p.unary()
	for {
		t := p.tokens[0]
		level := p.levels[sign{text: t.Text}]
		if level < least {
			return left
		}
		p.take()
		right := p.binary(level + 1)
		left = p.add(api.Node{Kind: api.NBinary, Text: t.Text, Kids: []int{left, right}, At: p.nodes[left].At})
	}
}

func (p *parser) unary() int {
	if p.levels[sign{text: p.tokens[0].Text, ahead: true}] > 0 {
		return p.deeper(p.ahead)
	}
	return p.primary()
}

func (p *parser) ahead() int {
	t := p.take()
	kids := []int{p.unary()}
	return p.add(api.Node{Kind: api.NUnary, Text: t.Text, Kids: kids, At: t.At})
}

func (p *parser) primary() int {
	switch t := p.tokens[0]; {
	case t.Kind == api.TNum:
		p.take()
		return p.add(api.Node{Kind: api.NNum, Num: t.Num, At: t.At})
	case t.Kind == api.TName:
		return p.named()
	case t.Text == "(":
		return p.brackets()
	case t.Text == "sel":
		return p.sel()
	}
	p.wrong()
	return 0
}

// named reads a name alone, or one with which word of it is asked for.
func (p *parser) named() int {
	t := p.take()
	n := api.Node{Kind: api.NName, Text: t.Text, At: t.At}
	if p.may("[") {
		n.Kind = api.NAt
		n.Kids = []int{p.e()}
		p.must("]")
	}
	return p.add(n)
}

func (p *parser) brackets() int {
	p.take()
	n := p.e()
	p.must(")")
	return n
}

func (p *parser) sel() int {
	at := p.take().At
	p.must("(")
	a := p.e()
	p.must(",")
	b := p.e()
	p.must(",")
	c := p.e()
	p.must(")")
	return p.add(api.Node{Kind: api.NSel, Kids: []int{a, b, c}, At: at})
}
