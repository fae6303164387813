package parse

import "footman/api"

func (p *parser) block() int {
	at := p.tokens[0].At
	p.must("{")
	return p.rest(at)
}

// rest is what of a block stands behind its `{`, or behind a task's variables.
func (p *parser) rest(at int) int {
	var l []int
	for p.isStatement() {
		l = append(l, p.deeper(p.statement))
	}
	p.must("}")
	return p.add(api.Node{Kind: api.NBlock, Kids: l, At: at})
}

func (p *parser) isStatement() bool {
	switch t := p.tokens[0]; t.Text {
	case "if", "for", "send", "recv", "out", "halt", "{":
		return true
	default:
		return t.Kind == api.TName
	}
}

// statement asks for a token that begins one.
func (p *parser) statement() int {
	switch p.tokens[0].Text {
	case "if":
		return p.choice()
	case "for":
		return p.loop()
	case "send":
		return p.send()
	case "recv":
		return p.recv()
	case "out":
		return p.out()
	case "halt":
		return p.halt()
	case "{":
		return p.block()
	}
	return p.set()
}

func (p *parser) set() int {
	t := p.take()
	n := api.Node{Kind: api.NSet, Text: t.Text, At: t.At}
	if p.may("[") {
		n.Kind = api.NPut
		n.Kids = append(n.Kids, p.e())
		p.must("]")
	}
	p.must("=")
	n.Kids = append(n.Kids, p.e())
	p.must(";")
	return p.add(n)
}

func (p *parser) choice() int {
	at := p.take().At
	p.must("(")
	condition := p.e()
	p.must(")")
	kids := []int{condition, p.block()}
	if p.may("else") {
		kids = append(kids, p.block())
	} else {
		kids = append(kids, p.add(api.Node{Kind: api.NBlock, At: at}))
	}
	return p.add(api.Node{Kind: api.NIf, Kids: kids, At: at})
}

func (p *parser) loop() int {
	n := api.Node{Kind: api.NFor, At: p.take().At}
	n.Text = p.name()
	p.must("in")
	n.Num = p.number()
	n.Kids = []int{p.block()}
	return p.add(n)
}

func (p *parser) send() int {
	n := api.Node{Kind: api.NSend, At: p.take().At}
	n.Text = p.name()
	n.Kids = []int{p.e()}
	p.must(";")
	return p.add(n)
}

func (p *parser) recv() int {
	n := api.Node{Kind: api.NRecv, At: p.take().At}
	n.Text = p.name()
	n.Names = []string{p.name()}
	p.must(";")
	return p.add(n)
}

func (p *parser) out() int {
	n := api.Node{Kind: api.NOut, At: p.take().At}
	n.Kids = []int{p.e()}
	p.must(";")
	return p.add(n)
}

func (p *parser) halt() int {
	n := api.Node{Kind: api.NHalt, At: p.take().At}
	p.must(";")
	return p.add(n)
}
