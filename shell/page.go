package shell

import (
	"strconv"
	"strings"

	"trommel/api"
)

// page is what is told, line by line.
type page struct{ strings.Builder }

// refusal is what is told of a text that is no script's.
func refusal(wrong int) string {
	var p page
	p.tell("refused line", wrong)
	return p.String()
}

// tell puts a line behind the others: words, and numbers behind them.
func (p *page) tell(words string, numbers ...int) {
	p.WriteString(words)
	for _, n := range numbers {
		p.WriteByte(' ')
		p.WriteString(strconv.Itoa(n))
	}
	p.WriteByte('\n')
}

// tellDone tells whether the op of a number was done.
func (p *page) tellDone(number int, e api.Errno) {
	op := strconv.Itoa(number)
	if e != api.OK {
		p.tell(op+" refused", int(e))
		return
	}
	p.tell(op + " ok")
}

// tellMoved tells how many steps the op of a number came to.
func (p *page) tellMoved(number, steps int) {
	p.tell(strconv.Itoa(number)+" moved", steps)
}

// tellAnswer tells what a user has received.
func (p *page) tellAnswer(user int, a api.Answer) {
	who := "user " + strconv.Itoa(user)
	switch {
	case a.Code != api.OK:
		p.tell(who+" refused", int(a.Code))
	case a.ID != 0:
		p.tell(who+" number", a.ID)
	case len(a.IDs) > 0:
		p.tell(who+" meets", a.IDs...)
	default:
		p.tell(who + " ok")
	}
}
