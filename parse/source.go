package parse

import "footman/api"

func (p *parser) source() {
	var tasks []int
	for p.is("task") {
		tasks = append(tasks, p.task())
	}
	p.add(api.Node{Kind: api.NAll, Kids: tasks})
}

func (p *parser) task() int {
	at := p.take().At
	name := p.name()
	block := p.tokens[0].At
	p.must("{")
	kids := p.variables()
	kids = append(kids, p.rest(block))
	return p.add(api.Node{Kind: api.NTask, Text: name, Kids: kids, At: at})
}

func (p *parser) variables() []int {
	var l []int
	for {
		switch p.tokens[0].Text {
		case "input", "public", "secret":
			l = append(l, p.variable())
		case "key":
			l = append(l, p.key())
		default:
			return l
		}
	}
}

func (p *parser) variable() int {
	n := api.Node{Kind: api.NVar, At: p.tokens[0].At}
	input := p.may("input")
	if input {
		n.Flags |= api.FInput
	}
	if p.may("secret") {
		n.Flags |= api.FSecret
	} else {
		p.must("public")
	}
	n.Text = p.name()
	if input || p.is("[") {
		p.must("[")
		n.Num = p.number()
		n.Flags |= api.FArray
		p.must("]")
	}
	p.must(";")
	return p.add(n)
}

func (p *parser) key() int {
	n := api.Node{Kind: api.NVar, Num: api.KeyWords, Flags: api.FSecret | api.FKey | api.FArray, At: p.take().At}
	n.Text = p.name()
	p.must(";")
	return p.add(n)
}
