package record_test

import (
	"bytes"
	"encoding/binary"
	"hash/crc32"
	"math/rand/v2"
	"slices"
	"strings"
	"testing"

	"trommel/api"
	"trommel/record"
)

func subbed(id int, text string) api.Change {
	return api.Change{Kind: api.Sub, ID: id, Text: text}
}

func replaced(id int, text string) api.Change {
	return api.Change{Kind: api.Replace, ID: id, Text: text}
}

func unsubbed(id int) api.Change { return api.Change{Kind: api.Unsub, ID: id} }

// long is a text of so many bytes.
func long(length int) string { return strings.Repeat("a {1} | \xff\x00", length/10+1)[:length] }

// varint is a number's, as the library writes it.
func varint(n int) []byte { return binary.AppendUvarint(nil, uint64(n)) }

// padded is a number's varint with so many bytes too many.
func padded(n, more int) []byte {
	b := varint(n)
	b[len(b)-1] |= 0x80
	return append(append(b, bytes.Repeat([]byte{0x80}, more-1)...), 0)
}

// sealed are parts with their sum behind them, the lowest byte first.
func sealed(parts ...[]byte) []byte {
	b := slices.Concat(parts...)
	return binary.LittleEndian.AppendUint32(b, crc32.ChecksumIEEE(b))
}

// body is one of any kind, number and text.
func body(kind, id int, text string) []byte {
	return slices.Concat([]byte{byte(kind)}, varint(id), []byte(text))
}

// around is a record around any body, with its own length and sum.
func around(body []byte) []byte { return sealed([]byte{0x43}, varint(len(body)), body) }

// recordOf is a change's record; headOf a number's head; whether they may be or not.
func recordOf(c api.Change) []byte { return around(body(c.Kind, c.ID, c.Text)) }

func headOf(next int) []byte { return sealed([]byte{0x48}, varint(next)) }

// recordsOf are those of changes, one behind the other.
func recordsOf(changes ...api.Change) []byte {
	var b []byte
	for _, c := range changes {
		b = append(b, recordOf(c)...)
	}
	return b
}

// mayBe tells of a change what the chapter tells.
func mayBe(c api.Change) bool {
	known := c.Kind == api.Sub || c.Kind == api.Replace || c.Kind == api.Unsub
	return known && c.ID >= 1 && c.ID <= api.MaxID && len(c.Text) <= api.MaxText && (c.Kind != api.Unsub || c.Text == "")
}

// wantDecode is what Decode must answer: b is read in the most lenient way, and
// then it must begin with the record of what was read.
func wantDecode(b []byte) (api.Change, int, api.Errno) {
	if c, ok := guess(b); ok && mayBe(c) && bytes.HasPrefix(b, recordOf(c)) {
		return c, len(recordOf(c)), api.OK
	}
	return api.Change{}, 0, api.ErrTorn
}

// guess is the one change of whose record b may be the beginning.
func guess(b []byte) (api.Change, bool) {
	if len(b) < 1 {
		return api.Change{}, false
	}
	length, read := binary.Uvarint(b[1:])
	if read < 1 || length < 2 || length > uint64(len(b)-1-read) {
		return api.Change{}, false
	}
	within := b[1+read:][:length]
	id, read := binary.Uvarint(within[1:])
	if read < 1 || id > api.MaxID {
		return api.Change{}, false
	}
	return api.Change{Kind: int(within[0]), ID: int(id), Text: string(within[1+read:])}, true
}

// wantScan is what Scan must answer.
func wantScan(b []byte) (int, []api.Change, int, api.Errno) {
	if len(b) < 1 {
		return 0, nil, 0, api.ErrHead
	}
	next, read := binary.Uvarint(b[1:])
	if read < 1 || next < 1 || next > api.MaxID+1 || !bytes.HasPrefix(b, headOf(int(next))) {
		return 0, nil, 0, api.ErrHead
	}
	var changes []api.Change
	at := len(headOf(int(next)))
	for {
		c, length, e := wantDecode(b[at:])
		if e != api.OK {
			return int(next), changes, at, api.OK
		}
		changes = append(changes, c)
		at += length
	}
}

// holdDecode holds Decode to what it must answer.
func holdDecode(t *testing.T, b []byte) (api.Change, int, api.Errno) {
	t.Helper()
	c, length, e := record.Decode(b)
	if wantC, wantLength, wantE := wantDecode(b); c != wantC || length != wantLength || e != wantE {
		t.Fatalf("Decode(% x) = %v, %d, %d, not %v, %d, %d", b, c, length, e, wantC, wantLength, wantE)
	}
	return c, length, e
}

// holdScan holds Scan to what it must answer.
func holdScan(t *testing.T, b []byte) (int, []api.Change, int, api.Errno) {
	t.Helper()
	next, changes, length, e := record.Scan(b)
	wantNext, wantChanges, wantLength, wantE := wantScan(b)
	if next != wantNext || !slices.Equal(changes, wantChanges) || length != wantLength || e != wantE {
		t.Fatalf("Scan(% x) = %d, %v, %d, %d, not %d, %v, %d, %d", b, next, changes, length, e, wantNext, wantChanges, wantLength, wantE)
	}
	return next, changes, length, e
}

// taken holds that Decode takes b as this change, in so many bytes.
func taken(t *testing.T, b []byte, want api.Change, wantLength int) {
	t.Helper()
	if c, length, e := holdDecode(t, b); c != want || length != wantLength || e != api.OK {
		t.Fatalf("Decode(% x) = %v, %d, %d", b, c, length, e)
	}
}

// torn holds that Decode refuses b.
func torn(t *testing.T, b []byte) {
	t.Helper()
	if c, length, e := holdDecode(t, b); c != (api.Change{}) || length != 0 || e != api.ErrTorn {
		t.Fatalf("Decode(% x) = %v, %d, %d", b, c, length, e)
	}
}

// found holds what Scan finds in b.
func found(t *testing.T, b []byte, wantNext int, wantLength int, want ...api.Change) {
	t.Helper()
	if next, changes, length, e := holdScan(t, b); next != wantNext || !slices.Equal(changes, want) || length != wantLength || e != api.OK {
		t.Fatalf("Scan(% x) = %d, %v, %d, %d", b, next, changes, length, e)
	}
}

// headless holds that Scan refuses b.
func headless(t *testing.T, b []byte) {
	t.Helper()
	if next, changes, length, e := holdScan(t, b); next != 0 || len(changes) != 0 || length != 0 || e != api.ErrHead {
		t.Fatalf("Scan(% x) = %d, %v, %d, %d", b, next, changes, length, e)
	}
}

// several are changes of every kind, with numbers and texts at the edges.
func several() []api.Change {
	return []api.Change{
		subbed(1, "a {1}"), unsubbed(300), replaced(127, ""), subbed(128, "\x00"), unsubbed(1), replaced(16383, `a {1} & !c "x"*`), subbed(16384, long(115)), subbed(2, long(125)), subbed(2, long(126)),
		unsubbed(api.MaxID), replaced(api.MaxID, "C\x02\x03\x01"), subbed(api.MaxID-1, "H\x01"), subbed(5, "\xff\xfe é"),
	}
}

// someChange is one that may be.
func someChange(chance *rand.Rand) api.Change {
	id := 1 + chance.IntN(1<<chance.IntN(40)+1)
	switch chance.IntN(3) {
	case 0:
		return unsubbed(id)
	case 1:
		return subbed(id, someText(chance))
	}
	return replaced(id, someText(chance))
}

func someText(chance *rand.Rand) string {
	b := make([]byte, chance.IntN(12)*chance.IntN(14))
	for i := range b {
		b[i] = byte(chance.IntN(256))
	}
	return string(b)
}

// someBytes are any, or some that heads and records begin with.
func someBytes(chance *rand.Rand) []byte {
	b := make([]byte, chance.IntN(12))
	for i := range b {
		b[i] = []byte{0x43, 0x48, 0, 1, 2, 3, 0x7f, 0x80, 0x81, 0xff, byte(chance.IntN(256))}[chance.IntN(11)]
	}
	return b
}
