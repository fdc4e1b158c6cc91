package script

import (
	"strconv"
	"strings"

	"trommel/api"
	"trommel/schema"
	"trommel/value"
)

// add puts what the line of a number tells into a script; false, if the line is
// wrong there.
func add(s *api.Script, number int, line string) bool {
	r := reader{words{left: line}}
	word := r.next()
	switch {
	case number == 1:
		s.Config = r.config()
		return configLine(s.Config) == line
	case word == attrWord:
		a := r.attr()
		s.Attrs = append(s.Attrs, a)
		_, e := schema.New(s.Attrs...)
		return len(s.Ops) == 0 && e == api.OK && attrLine(a) == line
	}
	o := r.op(word)
	s.Ops = append(s.Ops, o)
	written, e := Op(o)
	return len(s.Ops) <= api.MaxOps && e == api.OK && written == line
}

// words are those of a line that are still to be read.
type words struct {
	left string
}

// more tells whether anything is left.
func (w *words) more() bool { return w.left != "" }

// next is the next word, with the blank behind it gone; empty, if there is none.
func (w *words) next() string {
	end := wordEnd(w.left)
	word := w.left[:end]
	w.left = strings.TrimPrefix(w.left[end:], blank)
	return word
}

// wordEnd is where the first word of a line ends: at a blank, but for those
// within quotation marks.
func wordEnd(line string) int {
	quoted := false
	for i := 0; i < len(line); i++ {
		switch c := line[i]; {
		case c == '\\':
			// What is behind it stands for itself.
			i++
		case c == '"':
			quoted = !quoted
		case c == ' ' && !quoted:
			return i
		}
	}
	return len(line)
}

// reader reads its words as what they are meant to be, and refuses none: what
// is wrong becomes something that isn't in form, or is written otherwise than
// it stood there.
type reader struct{ words }

func (r *reader) config() api.Config {
	var n [8]int
	for i := range n {
		n[i] = r.number()
	}
	return api.Config{
		Limits: api.Limits{Depth: n[0], Conj: n[1], Subs: n[2], Total: n[3]},
		Shards: n[4], Queue: n[5], Window: n[6], Users: n[7],
	}
}

func (r *reader) attr() api.Attr {
	name := own(r.next())
	return api.Attr{Name: name, Kind: kindOf(r.next(), kindWord, api.KindWord)}
}

// op reads what stands behind an op's first word.
func (r *reader) op(word string) api.Op {
	o := api.Op{Kind: kindOf(word, opWord, api.OpTidy)}
	if o.Kind == api.OpCall {
		o.Who = r.number()
		o.Call = r.call()
		return o
	}
	for r.more() {
		o.Nums = append(o.Nums, r.number())
	}
	return o
}

func (r *reader) call() api.Call {
	c := api.Call{Change: api.Change{Kind: kindOf(r.next(), callWord, api.Match)}}
	switch c.Kind {
	case api.Sub:
		c.Text = r.text()
	case api.Replace:
		c.ID = r.number()
		c.Text = r.text()
	case api.Unsub:
		c.ID = r.number()
	case api.Match:
		for r.more() {
			c.Event = append(c.Event, r.pair())
		}
	}
	return c
}

func (r *reader) number() int {
	n, _ := strconv.Atoi(r.next())
	return n
}

func (r *reader) text() string {
	text, _ := value.Unquote(r.next())
	return text
}

func (r *reader) pair() api.Pair {
	name, text, _ := strings.Cut(r.next(), equals)
	v, _ := value.Parse(text)
	return api.Pair{Name: own(name), Value: v}
}

// own is a piece of a line in memory of its own: as a piece it would keep the
// whole text.
func own(piece string) string { return strings.Clone(piece) }

// kindOf is the kind, from 1 to the last, whose word it is; 0, if there is none.
func kindOf(word string, wordOf func(kind int) string, last int) int {
	for kind := 1; kind <= last; kind++ {
		if wordOf(kind) == word {
			return kind
		}
	}
	return 0
}
