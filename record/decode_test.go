package record_test

import (
	"bytes"
	"encoding/binary"
	"math"
	"math/rand/v2"
	"slices"
	"testing"

	"trommel/api"
	"trommel/record"
)

// P17.2: what Encode tells Decode takes, with whatever behind it; and of no beginning it takes anything.
func TestDecode(t *testing.T) {
	behind := [][]byte{nil, {}, {0}, {0x43}, {0x48, 1}, {0xff, 0xff, 0xff, 0xff, 0xff}, recordOf(unsubbed(7)), recordOf(subbed(8, "a {1}"))[:9], bytes.Repeat([]byte{0x80}, 20), headOf(5)}
	for _, c := range append(several(), replaced(api.MaxID, long(api.MaxText)), subbed(1, long(api.MaxText-1))) {
		b, e := record.Encode(c)
		if e != api.OK {
			t.Fatalf("Encode(%v): %d", c, e)
		}
		for _, rest := range behind {
			taken(t, slices.Concat(b, rest), c, len(b))
		}
		for cut := range b {
			torn(t, b[:cut])
		}
	}
	for _, none := range [][]byte{nil, {}} {
		torn(t, none)
	}
}

// P17.2: of rows of records each is found at its place.
func TestDecodeOneByOne(t *testing.T) {
	row := several()
	b, e := record.Encode(row...)
	if e != api.OK {
		t.Fatal(e)
	}
	for _, want := range row {
		c, length, e := holdDecode(t, b)
		again, _ := record.Encode(c)
		if c != want || e != api.OK || !bytes.Equal(again, b[:length]) {
			t.Fatalf("Decode = %v, %d, %d, not %v", c, length, e, want)
		}
		b = b[length:]
	}
	torn(t, b)
}

// P17.1: a whole record, its sum right, of a change that may not be.
func TestDecodeOfWhatMayNotBe(t *testing.T) {
	for kind := range 256 {
		for _, id := range []int{1, api.MaxID} {
			b := recordOf(api.Change{Kind: kind, ID: id})
			if kind >= api.Sub && kind <= api.Unsub {
				taken(t, b, api.Change{Kind: kind, ID: id}, len(b))
			} else {
				torn(t, b)
			}
		}
	}
	for _, kind := range []int{api.Sub, api.Replace, api.Unsub} {
		for _, id := range []int{0, api.MaxID + 1, 1<<42 - 1, 1 << 42, 1<<49 + 1, 1<<56 + 1, math.MaxInt, math.MinInt, -1} {
			torn(t, around(body(kind, id, "")))
			torn(t, around(body(kind, id, "a {1}")))
		}
	}
	for _, kind := range []int{api.Sub, api.Replace} {
		c := api.Change{Kind: kind, ID: 1, Text: long(api.MaxText)}
		taken(t, recordOf(c), c, len(recordOf(c)))
		for _, more := range []int{1, 2, 100, 1 << 14} {
			torn(t, recordOf(api.Change{Kind: kind, ID: 1, Text: long(api.MaxText + more)}))
		}
	}
	for _, text := range []string{"x", "\x00", " ", "a {1}", long(api.MaxText)} {
		torn(t, recordOf(api.Change{Kind: api.Unsub, ID: 1, Text: text}))
	}
	for _, whole := range [][]byte{nil, {1}, {3}, {1, 0x80}, {3, 0xff, 0xff}, {3, 0x80, 0x80, 0x80, 0x80, 0x80, 0x80, 0x80}} {
		torn(t, around(whole))
	}
}

// P17.1: varints with bytes too many, of the number and of the length, the sum being right.
func TestDecodeOfLongVarints(t *testing.T) {
	for _, c := range []api.Change{unsubbed(1), unsubbed(127), unsubbed(128), unsubbed(16384), unsubbed(api.MaxID), subbed(1, "a {1}"), subbed(300, long(200)), replaced(api.MaxID, "")} {
		taken(t, recordOf(c), c, len(recordOf(c)))
		for more := 1; more < 12; more++ {
			torn(t, around(slices.Concat([]byte{byte(c.Kind)}, padded(c.ID, more), []byte(c.Text))))
			whole := body(c.Kind, c.ID, c.Text)
			torn(t, sealed([]byte{0x43}, padded(len(whole), more), whole))
		}
	}
	// Those that come to a number that may be, when what is above 64 bits, or above 32, is lost.
	wrapped := []byte{0x81, 0x80, 0x80, 0x80, 0x80, 0x80, 0x80, 0x80, 0x80, 0x02}
	for _, number := range [][]byte{wrapped, {0x81, 0x80, 0x80, 0x80, 0x80, 0x80, 0x80, 0x80, 0x80, 0x80, 0x01}, {0x81, 0x80, 0x80, 0x80, 0x80, 0x80, 0x80, 0x80, 0x80, 0x01}, {0x81, 0x80, 0x80, 0x80, 0x80, 0x80, 0x01}, {0x81, 0x80, 0x80, 0x80, 0x80, 0x40}} {
		torn(t, around(slices.Concat([]byte{api.Unsub}, number)))
	}
	taken(t, around([]byte{api.Unsub, 0x81, 0x80, 0x80, 0x80, 0x10}), unsubbed(1<<32+1), 12)
	for _, length := range [][]byte{{0x82, 0x80, 0x80, 0x80, 0x80, 0x80, 0x80, 0x80, 0x80, 0x02}, {0x82, 0x80, 0x80, 0x80, 0x10}, {0x82, 0x80, 0x80, 0x80, 0x80, 0x80, 0x80, 0x80, 0x80, 0x01}} {
		torn(t, sealed([]byte{0x43}, length, body(api.Unsub, 1, "")))
	}
}

// P17.1: a length that tells more or less than the body has, with the sum of all that stands ahead of it.
func TestDecodeOfWrongLengths(t *testing.T) {
	for _, c := range []api.Change{unsubbed(1), unsubbed(300), subbed(1, "a {1}"), replaced(api.MaxID, long(126))} {
		whole := body(c.Kind, c.ID, c.Text)
		for length := range len(whole) + 10 {
			if length != len(whole) {
				torn(t, sealed([]byte{0x43}, varint(length), whole))
			}
		}
		for _, length := range []int{1 << 14, 1 << 31, 1<<32 + len(whole), api.MaxID, math.MaxInt, math.MinInt, -1, -len(whole)} {
			torn(t, sealed([]byte{0x43}, varint(length), whole))
			torn(t, slices.Concat([]byte{0x43}, varint(length)))
		}
	}
	// A body that is as long as told, though its sum is that of something else.
	b := recordOf(subbed(1, "a {1}"))
	torn(t, slices.Concat(b[:9], recordOf(subbed(1, "a {2}"))[9:]))
	torn(t, slices.Concat(b[:9], binary.BigEndian.AppendUint32(nil, record.Sum(b[:9]))))
	torn(t, slices.Concat(b[:9], []byte{0, 0, 0, 0}))
}

// P17.1: another first byte, the sum being right.
func TestDecodeOfAnotherFirstByte(t *testing.T) {
	for _, c := range []api.Change{unsubbed(1), subbed(1, "a {1}")} {
		whole := body(c.Kind, c.ID, c.Text)
		for first := range 256 {
			b := sealed([]byte{byte(first)}, varint(len(whole)), whole)
			if first == 0x43 {
				taken(t, b, c, len(b))
			} else {
				torn(t, b)
			}
			torn(t, slices.Concat([]byte{byte(first)}, recordOf(c)))
		}
	}
	torn(t, headOf(1))
	torn(t, slices.Concat(headOf(1), recordOf(unsubbed(1))))
}

// P17.4: with any one byte of the body or of the sum another one, a record is refused.
func TestTurned(t *testing.T) {
	for _, c := range several() {
		b := recordOf(c)
		start := 1 + len(varint(len(body(c.Kind, c.ID, c.Text))))
		for i := start; i < len(b); i++ {
			for turn := 1; turn < 256; turn++ {
				turned := slices.Clone(b)
				turned[i] ^= byte(turn)
				if got, length, e := record.Decode(turned); got != (api.Change{}) || length != 0 || e != api.ErrTorn {
					t.Fatalf("Decode(% x) = %v, %d, %d; its byte %d was %x", turned, got, length, e, i, b[i])
				}
			}
		}
	}
	greatest := recordOf(replaced(api.MaxID, long(api.MaxText)))
	for i := 3; i < len(greatest); i++ {
		turned := slices.Clone(greatest)
		turned[i] ^= 1 << (i % 8)
		if _, _, e := record.Decode(turned); e != api.ErrTorn {
			t.Fatalf("with byte %d turned: %d", i, e)
		}
	}
}

// P17.1: the first byte and the length turned too; the chapter tells what there is then.
func TestTurnedAhead(t *testing.T) {
	for _, c := range several() {
		b := slices.Concat(recordOf(c), recordOf(subbed(9, long(300))))
		for i := range 3 {
			for turn := 1; turn < 256; turn++ {
				turned := slices.Clone(b)
				turned[i] ^= byte(turn)
				holdDecode(t, turned)
			}
		}
	}
}

// P17.2: Scan of a head and records finds all of them.
func TestScan(t *testing.T) {
	row := several()
	for _, next := range []int{1, 127, 128, 16384, api.MaxID, api.MaxID + 1} {
		head, e := record.Head(next)
		if e != api.OK {
			t.Fatal(e)
		}
		for cut := range len(row) + 1 {
			b, e := record.Encode(row[:cut]...)
			if e != api.OK {
				t.Fatal(e)
			}
			found(t, slices.Concat(head, b), next, len(head)+len(b), row[:cut]...)
		}
	}
	for _, none := range [][]byte{nil, {}} {
		headless(t, none)
	}
	// What the numbers are, and whether they come twice, plays no part.
	twice := []api.Change{unsubbed(5), unsubbed(5), subbed(7, ""), subbed(7, ""), subbed(3, "a {"), replaced(1, "x")}
	found(t, slices.Concat(headOf(9), recordsOf(twice...)), 9, len(headOf(9))+len(recordsOf(twice...)), twice...)
}

// P17.3: of every beginning of a head and records Scan finds the whole ones.
func TestBeginnings(t *testing.T) {
	for _, next := range []int{1, 300, api.MaxID + 1} {
		for _, row := range [][]api.Change{several(), {subbed(1, "a {1}"), unsubbed(1)}, {unsubbed(1)}, {subbed(2, long(api.MaxText)), unsubbed(2), subbed(3, "")}} {
			b := slices.Concat(headOf(next), recordsOf(row...))
			// Behind how many bytes how many are whole.
			ends := []int{len(headOf(next))}
			for _, c := range row {
				ends = append(ends, ends[len(ends)-1]+len(recordOf(c)))
			}
			for cut := range len(b) + 1 {
				if cut < ends[0] {
					headless(t, b[:cut])
					continue
				}
				whole := 0
				for whole < len(row) && ends[whole+1] <= cut {
					whole++
				}
				next2, changes, length, e := record.Scan(b[:cut])
				if next2 != next || !slices.Equal(changes, row[:whole]) || length != ends[whole] || e != api.OK {
					t.Fatalf("of the first %d bytes: %d, %v, %d, %d", cut, next2, changes, length, e)
				}
			}
		}
	}
}

// P17.1: heads that are none.
func TestHeadless(t *testing.T) {
	records := recordsOf(several()...)
	for _, next := range []int{0, api.MaxID + 2, 1<<42 - 1, 1 << 42, 1<<49 + 1, 1<<56 + 1, math.MaxInt, -1, math.MinInt} {
		headless(t, headOf(next))
		headless(t, slices.Concat(headOf(next), records))
	}
	for _, next := range []int{1, 127, 128, 16384, api.MaxID + 1} {
		for more := 1; more < 12; more++ {
			headless(t, slices.Concat(sealed([]byte{0x48}, padded(next, more)), records))
		}
		for first := range 256 {
			b := slices.Concat(sealed([]byte{byte(first)}, varint(next)), records)
			if first == 0x48 {
				found(t, b, next, len(b), several()...)
			} else {
				headless(t, b)
			}
		}
		// A byte of it turned: of a number it may be another one, but not with this sum.
		head := headOf(next)
		for i := range head {
			for turn := 1; turn < 256; turn++ {
				turned := slices.Concat(head, records)
				turned[i] ^= byte(turn)
				headless(t, turned)
			}
		}
		headless(t, slices.Concat(head[:len(head)-4], binary.BigEndian.AppendUint32(nil, record.Sum(head[:len(head)-4]))))
	}
	headless(t, records)
	headless(t, slices.Concat([]byte{0}, headOf(1)))
	headless(t, slices.Concat(recordOf(unsubbed(1)), headOf(1)))
	headless(t, sealed([]byte{0x48}, []byte{0x81, 0x80, 0x80, 0x80, 0x80, 0x80, 0x80, 0x80, 0x80, 0x02}))
}

// P17.1: something else between or behind ends what Scan finds.
func TestSomethingElse(t *testing.T) {
	row := several()
	others := [][]byte{
		{0}, {0x43}, {0x48}, {0xff}, {0x43, 0}, headOf(1), sealed([]byte{0x43, 0}), recordOf(api.Change{Kind: api.Match, ID: 1}), recordOf(subbed(0, "x")), recordOf(subbed(1, long(api.MaxText+1))), recordOf(api.Change{Kind: api.Unsub, ID: 1, Text: "x"}), recordOf(unsubbed(api.MaxID + 1)),
		recordOf(unsubbed(9))[1:], recordOf(unsubbed(9))[:7], sealed([]byte{0x43, 0x82, 0}, body(api.Unsub, 1, "")), bytes.Repeat([]byte{0xff}, 30), {0, 0, 0, 0, 0, 0, 0, 0},
	}
	for _, other := range others {
		for place := range len(row) + 1 {
			ahead := slices.Concat(headOf(77), recordsOf(row[:place]...))
			found(t, slices.Concat(ahead, other), 77, len(ahead), row[:place]...)
			found(t, slices.Concat(ahead, other, recordsOf(row[place:]...)), 77, len(ahead), row[:place]...)
		}
	}
	// So does a record of which a byte is another.
	b := slices.Concat(headOf(77), recordsOf(row[:4]...))
	place, ahead := 0, len(headOf(77))
	for i := ahead; i < len(b); i++ {
		if i == ahead+len(recordOf(row[place])) {
			ahead = i
			place++
		}
		turned := slices.Clone(b)
		turned[i] ^= 0x20
		if inBody := i >= ahead+2; inBody {
			found(t, turned, 77, ahead, row[:place]...)
		} else {
			holdScan(t, turned)
		}
	}
}

// P17.1 to P17.4: by chance: records and heads with something done to them.
func TestByChance(t *testing.T) {
	chance := rand.New(rand.NewPCG(17, 2))
	whole := 0
	for range 20_000 {
		b := someBytes(chance)
		if chance.IntN(4) > 0 {
			b = headOf(1 + chance.IntN(1<<chance.IntN(41)))
		}
		start := len(b)
		for range chance.IntN(4) {
			b = append(b, recordOf(someChange(chance))...)
		}
		for range chance.IntN(3) {
			b = harm(chance, b)
		}
		if _, _, _, e := holdScan(t, b); e == api.OK {
			whole++
		}
		for _, at := range []int{0, start, chance.IntN(len(b) + 1)} {
			c, length, e := holdDecode(t, b[min(at, len(b)):])
			if e != api.OK {
				continue
			}
			if again, e := record.Encode(c); e != api.OK || !bytes.Equal(again, b[at:at+length]) {
				t.Fatalf("Decode of % x takes what Encode doesn't tell: % x, %d", b[at:], again, e)
			}
		}
	}
	if whole < 4000 {
		t.Errorf("only %d had a head", whole)
	}
}

// harm does something to bytes.
func harm(chance *rand.Rand, b []byte) []byte {
	at := chance.IntN(len(b) + 1)
	switch chance.IntN(6) {
	case 0:
		return b[:at]
	case 1:
		return slices.Insert(b, at, someBytes(chance)...)
	case 2:
		return slices.Delete(b, at, min(at+chance.IntN(4), len(b)))
	case 3:
		if at < len(b) {
			b[at] ^= 1 << chance.IntN(8)
		}
		return b
	case 4:
		// A record around anything, with the right sum.
		return slices.Insert(b, at, around(someBytes(chance))...)
	}
	return append(b, someBytes(chance)...)
}

// Rule 1: every row of a few bytes is answered.
func TestShortBytes(t *testing.T) {
	some := []byte{0x43, 0x48, 0, 1, 2, 3, 4, 0x7f, 0x80, 0xff}
	rows := [][]byte{nil}
	for range 5 {
		var longer [][]byte
		for _, row := range rows {
			holdDecode(t, row)
			holdScan(t, row)
			holdDecode(t, sealed(row))
			holdScan(t, sealed(row))
			for _, b := range some {
				longer = append(longer, append(slices.Clone(row), b))
			}
		}
		rows = longer
	}
}
