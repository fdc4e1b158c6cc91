package record

import (
	"bytes"

	"trommel/api"
)

const (
	sealSize = 4
	// No number or length that may be has a longer varint: MaxID + 1 has this.
	varintSize = 6
)

// piece is bytes that are gone through from the front on.
type piece struct {
	all []byte
	at  int
}

// ahead are the bytes that were gone through.
func (p *piece) ahead() []byte { return p.all[:p.at] }

// behind are those that weren't.
func (p *piece) behind() []byte { return p.all[p.at:] }

// reader reads what heads and records are made of. It is torn as soon as that
// isn't there: what it answers from then on means nothing.
type reader struct {
	piece
	torn bool
}

func readerOf(b []byte) *reader { return &reader{piece: piece{all: b}} }

// need makes the reader torn, unless it is as it must be.
func (r *reader) need(ok bool) { r.torn = r.torn || !ok }

// take reads so many bytes.
func (r *reader) take(n int) []byte {
	r.need(n <= len(r.behind()))
	if r.torn {
		return nil
	}
	taken := r.behind()[:n]
	r.at += n
	return taken
}

// one reads a byte.
func (r *reader) one() byte {
	taken := r.take(1)
	if r.torn {
		return 0
	}
	return taken[0]
}

// mark reads the byte with which something begins.
func (r *reader) mark(want byte) { r.need(r.one() == want) }

// varint reads a number.
func (r *reader) varint() int {
	n := 0
	for i := range varintSize {
		b := r.one()
		n |= int(b&0x7f) << (7 * i)
		if b < 0x80 {
			// With nothing in the last byte fewer would have done.
			r.need(b > 0 || i == 0)
			return n
		}
	}
	r.need(false)
	return 0
}

// seal reads the sum of all that was read.
func (r *reader) seal() {
	want := seal(r.ahead())
	r.need(bytes.Equal(r.take(sealSize), want))
}

// read is the record with which bytes begin; false, if they begin with none.
func read(b []byte) (record, bool) {
	r := readerOf(b)
	r.mark(recordMark)
	body := r.take(r.varint())
	r.seal()
	if r.torn {
		return record{}, false
	}
	c, ok := readBody(body)
	return record{c, r.ahead()}, ok
}

// readBody is the change of a record's body; false, if it isn't one that may be.
func readBody(body []byte) (api.Change, bool) {
	r := readerOf(body)
	kind := r.one()
	id := r.varint()
	c := api.Change{Kind: int(kind), ID: id, Text: string(r.behind())}
	return c, !r.torn && May(c)
}

// readHead is the number of the head with which bytes begin, and the head's
// length; false, if they begin with none.
func readHead(b []byte) (int, int, bool) {
	r := readerOf(b)
	r.mark(headMark)
	next := r.varint()
	r.seal()
	return next, r.at, !r.torn && mayBeNext(next)
}
