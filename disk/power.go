package disk

import "trommel/api"

// power is what acts need, and when it goes.
type power struct {
	acts  int
	off   bool
	named int // the act at which it goes, 1 being the next one; 0, if there is none
	part  int // how many bytes it still appends then
}

// Acts is how many acts were done.
func (p *power) Acts() int { return p.acts }

// Off tells whether the power is off.
func (p *power) Off() bool { return p.off }

// Arm names the act at which the power goes.
func (p *power) Arm(n, part int) api.Errno {
	if p.off {
		return api.ErrDown
	}
	p.named, p.part = max(n, 0), part
	return api.OK
}

// spend counts an act that has no error of its own; with an error the power
// went at it.
func (p *power) spend() api.Errno {
	if p.named == 1 {
		p.off = true
		return api.ErrDown
	}
	p.named = max(p.named-1, 0)
	p.acts++
	return api.OK
}

// done is how many of so many bytes are appended by the act at which the power goes.
func (p *power) done(all int) int { return min(max(p.part, 0), all) }
