package asm

import "footman/api"

// How many words a near branch reaches, from its own on.
const (
	reachBack  = 1024
	reachAhead = 1023
)

// A leap is a branch that is far: its place among the items, and the name that it leads to.
type leap struct {
	place int
	name  string
}

// A span is a branch, as long as it is near, with all up to its label.
type span struct {
	place int
	words int // from the branch to its label; below 0: back
	first int // number of the first branch between the two
	end   int // number behind the last one
}

func (s span) isNear() bool {
	return -reachBack <= s.words && s.words <= reachAhead
}

func (s span) holds(branch int) bool {
	return s.first <= branch && branch < s.end
}

// widen makes room for one more word between a branch and its label.
func (s *span) widen() {
	if s.words > 0 {
		s.words++
	} else {
		s.words--
	}
}

func (p *program) leapAt(at int) leap {
	return leap{at, p.items[at].Name}
}

func (p *program) isFar(at int) bool {
	_, ok := p.far[p.leapAt(at)]
	return ok
}

// findFar asks for items that are right. More words never bring a label nearer, so that it counts for nothing
// in which order branches become far: each of them only widens the spans that it stands in.
func (p *program) findFar() {
	l := p.spans()
	var open []int // far ones that have not widened others yet
	for n := range l {
		if !l[n].isNear() {
			open = append(open, n)
		}
	}
	for len(open) > 0 {
		n := open[len(open)-1]
		open = append(open[:len(open)-1], widenAround(l, n)...)
		p.far[p.leapAt(l[n].place)] = struct{}{}
	}
}

// widenAround tells which spans that the branch n stands in are near no more with one word more of it.
// Every branch has a word of its own: none from farther off than a near one reaches has n in its span.
func widenAround(l []span, n int) []int {
	var lost []int
	for k := max(0, n-reachBack); k <= min(len(l)-1, n+reachBack); k++ {
		if !l[k].isNear() || !l[k].holds(n) {
			continue
		}
		l[k].widen()
		if !l[k].isNear() {
			lost = append(lost, k)
		}
	}
	return lost
}

// spans tells all branches, in order, with no one of them far.
func (p *program) spans() []span {
	var l []span
	ahead := make([]int, len(p.items)) // how many branches stand ahead of each item
	for at, x := range p.items {
		ahead[at] = len(l)
		if x.Kind == api.ABranch {
			l = append(l, span{place: at})
		}
	}
	starts := p.starts()
	for n := range l {
		s := &l[n]
		label := p.labels[p.items[s.place].Name]
		s.words = starts[label] - starts[s.place]
		if label < s.place {
			s.first, s.end = ahead[label], n
		} else {
			s.first, s.end = n+1, ahead[label]
		}
	}
	return l
}
