package flat

// position is a place in the translation, which may not be known yet.
type position struct {
	at    int
	known bool
	fill  []func(at int) // what is to be done as soon as it is known
}

// tell hands the position on, at once or as soon as it is known.
func (p *position) tell(fill func(at int)) {
	if p.known {
		fill(p.at)
		return
	}
	p.fill = append(p.fill, fill)
}

// settle makes the position known.
func (p *position) settle(at int) {
	p.at, p.known = at, true
	for _, fill := range p.fill {
		fill(at)
	}
}

// label is what a jump goes to.
type label struct {
	position
	keep   int // the number of its types
	height int // of the stack below what its block takes
}

// target is that of a jump to the label from a height, but for the position.
func (l *label) target(height int) Target {
	return Target{Keep: l.keep, Drop: height - l.keep - l.height}
}
