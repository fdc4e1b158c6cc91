package journal_test

import (
	"bytes"
	"encoding/binary"
	"hash/crc32"
	"math/rand/v2"
	"slices"
	"strings"
	"testing"

	"trommel/api"
	"trommel/disk"
	"trommel/journal"
)

func subbed(id int, text string) api.Change {
	return api.Change{Kind: api.Sub, ID: id, Text: text}
}

func replaced(id int, text string) api.Change {
	return api.Change{Kind: api.Replace, ID: id, Text: text}
}

func unsubbed(id int) api.Change { return api.Change{Kind: api.Unsub, ID: id} }

// long is a text of so many bytes.
func long(length int) string { return strings.Repeat("a {1} | \xff\x00", length/10+1)[:length] }

// sealed are parts with their sum behind them, the lowest byte first.
func sealed(parts ...[]byte) []byte {
	b := slices.Concat(parts...)
	return binary.LittleEndian.AppendUint32(b, crc32.ChecksumIEEE(b))
}

func varint(n int) []byte { return binary.AppendUvarint(nil, uint64(n)) }

// headOf is a number's head; recordsOf are changes' records; whether they may be or not.
func headOf(next int) []byte { return sealed([]byte{0x48}, varint(next)) }

func recordsOf(changes ...api.Change) []byte {
	var b []byte
	for _, c := range changes {
		body := slices.Concat([]byte{byte(c.Kind)}, varint(c.ID), []byte(c.Text))
		b = append(b, sealed([]byte{0x43}, varint(len(body)), body)...)
	}
	return b
}

// wholeOf is a journal's bytes.
func wholeOf(next int, changes ...api.Change) []byte {
	return slices.Concat(headOf(next), recordsOf(changes...))
}

// mayBe tells of a change what layer 16 tells.
func mayBe(c api.Change) bool {
	known := c.Kind == api.Sub || c.Kind == api.Replace || c.Kind == api.Unsub
	return known && c.ID >= 1 && c.ID <= api.MaxID && len(c.Text) <= api.MaxText && (c.Kind != api.Unsub || c.Text == "")
}

// allMay tells whether all changes may be.
func allMay(changes []api.Change) bool {
	return !slices.ContainsFunc(changes, func(c api.Change) bool { return !mayBe(c) })
}

// readWhole finds the head's number and the whole records behind it, by
// writing what each may be and looking whether it stands there.
func readWhole(b []byte) (next int, changes []api.Change, length int, ok bool) {
	if len(b) < 1 {
		return 0, nil, 0, false
	}
	number, read := binary.Uvarint(b[1:])
	if read < 1 || number < 1 || number > api.MaxID+1 || !bytes.HasPrefix(b, headOf(int(number))) {
		return 0, nil, 0, false
	}
	length = len(headOf(int(number)))
	for {
		c, ok := guess(b[length:])
		if !ok || !mayBe(c) || !bytes.HasPrefix(b[length:], recordsOf(c)) {
			return int(number), changes, length, true
		}
		changes = append(changes, c)
		length += len(recordsOf(c))
	}
}

// guess is the one change of whose record b may be the beginning.
func guess(b []byte) (api.Change, bool) {
	if len(b) < 1 {
		return api.Change{}, false
	}
	length, read := binary.Uvarint(b[1:])
	if read < 1 || length < 2 || length > uint64(len(b)-1-read) {
		return api.Change{}, false
	}
	within := b[1+read:][:length]
	id, read := binary.Uvarint(within[1:])
	if read < 1 || id > api.MaxID {
		return api.Change{}, false
	}
	return api.Change{Kind: int(within[0]), ID: int(id), Text: string(within[1+read:])}, true
}

// ledger is a journal as the chapter tells it, on a disk of its own.
type ledger struct {
	d                     *disk.Disk
	down                  api.Errno
	count, bytes, pending int
}

// anew does the three acts of writing anew.
func anew(d *disk.Disk, next int, changes ...api.Change) api.Errno {
	if e := d.Append("fresh", wholeOf(next, changes...)...); e != api.OK {
		return e
	}
	if e := d.Sync("fresh"); e != api.OK {
		return e
	}
	return d.Rename("fresh", "journal")
}

// nextOf is the next number of a head's number and changes.
func nextOf(next int, changes ...api.Change) int {
	numbers := []int{next}
	for _, c := range changes {
		if c.Kind == api.Sub {
			numbers = append(numbers, c.ID+1)
		}
	}
	return slices.Max(numbers)
}

// wantOpen is what Open must answer of a disk, and do with it.
func wantOpen(d *disk.Disk) (*ledger, int, []api.Change, api.Errno) {
	switch {
	case d == nil:
		return nil, 0, nil, api.ErrForm
	case d.Off():
		return nil, 0, nil, api.ErrDown
	}
	if _, e := d.Read("fresh"); e != api.ErrFile {
		if e := d.Remove("fresh"); e != api.OK {
			return nil, 0, nil, e
		}
	}
	b, e := d.Read("journal")
	if e == api.ErrFile {
		if e := anew(d, 1); e != api.OK {
			return nil, 0, nil, e
		}
		return &ledger{d: d, bytes: len(headOf(1))}, 1, nil, api.OK
	}
	next, changes, length, ok := readWhole(b)
	if !ok {
		return nil, 0, nil, api.ErrHead
	}
	if len(b) > length || d.Loose("journal") > 0 {
		if e := anew(d, next, changes...); e != api.OK {
			return nil, 0, nil, e
		}
	}
	return &ledger{d: d, count: len(changes), bytes: length}, nextOf(next, changes...), changes, api.OK
}

func (l *ledger) append(changes ...api.Change) api.Errno {
	switch {
	case l.down != api.OK:
		return l.down
	case !allMay(changes):
		return api.ErrForm
	case len(changes) == 0:
		return api.OK
	}
	if l.down = l.d.Append("journal", recordsOf(changes...)...); l.down == api.OK {
		l.count += len(changes)
		l.bytes += len(recordsOf(changes...))
		l.pending += len(changes)
	}
	return l.down
}

func (l *ledger) sync() api.Errno {
	switch {
	case l.down != api.OK:
		return l.down
	case l.pending == 0:
		return api.OK
	}
	if l.down = l.d.Sync("journal"); l.down == api.OK {
		l.pending = 0
	}
	return l.down
}

func (l *ledger) rewrite(next int, changes ...api.Change) api.Errno {
	switch {
	case l.down != api.OK:
		return l.down
	case next < 1 || next > api.MaxID+1:
		return api.ErrRange
	case !allMay(changes):
		return api.ErrForm
	}
	if l.down = anew(l.d, next, changes...); l.down == api.OK {
		l.count, l.bytes, l.pending = len(changes), len(wholeOf(next, changes...)), 0
	}
	return l.down
}

// pair is a disk with a journal and another with a ledger, to which the same is done.
type pair struct {
	t  *testing.T
	d  *disk.Disk
	j  *journal.Journal
	wd *disk.Disk
	w  *ledger
}

// newPair are two disks without files, and no journal.
func newPair(t *testing.T) *pair { return &pair{t: t, d: disk.New(), wd: disk.New()} }

// opened are two journals on new disks.
func opened(t *testing.T) *pair {
	t.Helper()
	p := newPair(t)
	p.want(p.open(), api.OK)
	return p
}

// act does something to both disks, behind the journals' back.
func (p *pair) act(do func(d *disk.Disk) api.Errno) {
	p.t.Helper()
	if got, want := do(p.d), do(p.wd); got != want {
		p.t.Fatalf("the disks answer %d and %d", got, want)
	}
	p.hold()
}

// lay puts bytes into a file, some of which at the end stay loose.
func (p *pair) lay(name string, b []byte, loose int) {
	p.t.Helper()
	p.act(func(d *disk.Disk) api.Errno { return d.Append(name, b[:len(b)-loose]...) })
	p.act(func(d *disk.Disk) api.Errno { return d.Sync(name) })
	p.act(func(d *disk.Disk) api.Errno { return d.Append(name, b[len(b)-loose:]...) })
}

func (p *pair) arm(n, part int) {
	p.t.Helper()
	p.act(func(d *disk.Disk) api.Errno { return d.Arm(n, part) })
}

// filesOf are a disk's files: names, how many bytes are loose, and the bytes.
func filesOf(d *disk.Disk) string {
	var s strings.Builder
	for _, name := range d.Names() {
		b, _ := d.Read(name)
		s.WriteString(name + "\x00" + string(varint(d.Loose(name))) + string(varint(len(b))) + string(b))
	}
	return s.String()
}

// hold holds that both disks are alike, and that both journals tell the same.
func (p *pair) hold() {
	p.t.Helper()
	if p.d.Acts() != p.wd.Acts() || p.d.Off() != p.wd.Off() {
		p.t.Fatalf("Acts %d, Off %v; not %d, %v", p.d.Acts(), p.d.Off(), p.wd.Acts(), p.wd.Off())
	}
	if got, want := filesOf(p.d), filesOf(p.wd); got != want {
		p.t.Fatalf("the disk has %q, not %q", got, want)
	}
	if (p.j == nil) != (p.w == nil) {
		p.t.Fatalf("there is a journal: %v", p.j != nil)
	}
	if p.j != nil && (p.j.Count() != p.w.count || p.j.Bytes() != p.w.bytes || p.j.Pending() != p.w.pending) {
		p.t.Fatalf("Count %d, Bytes %d, Pending %d; not %d, %d, %d", p.j.Count(), p.j.Bytes(), p.j.Pending(), p.w.count, p.w.bytes, p.w.pending)
	}
}

// answered holds an answer, and then the whole.
func (p *pair) answered(call string, got, want api.Errno) api.Errno {
	p.t.Helper()
	if got != want {
		p.t.Fatalf("%s = %d, not %d", call, got, want)
	}
	p.hold()
	return got
}

// openFor is what both Opens answer; the journals are these from now on.
func (p *pair) openFor() (int, []api.Change, api.Errno) {
	p.t.Helper()
	j, next, changes, e := journal.Open(p.d)
	w, wantNext, wantChanges, wantE := wantOpen(p.wd)
	if next != wantNext || !slices.Equal(changes, wantChanges) || e != wantE {
		p.t.Fatalf("Open = %d, %v, %d, not %d, %v, %d", next, changes, e, wantNext, wantChanges, wantE)
	}
	if e != api.OK && (j != nil || next != 0 || len(changes) != 0) {
		p.t.Fatalf("beside %d: a journal %v, %d, %v", e, j != nil, next, changes)
	}
	p.j, p.w = j, w
	p.hold()
	return next, changes, e
}

func (p *pair) open() api.Errno {
	p.t.Helper()
	_, _, e := p.openFor()
	return e
}

func (p *pair) append(changes ...api.Change) api.Errno {
	p.t.Helper()
	return p.answered("Append", p.j.Append(changes...), p.w.append(changes...))
}

func (p *pair) sync() api.Errno {
	p.t.Helper()
	return p.answered("Sync", p.j.Sync(), p.w.sync())
}

func (p *pair) rewrite(next int, changes ...api.Change) api.Errno {
	p.t.Helper()
	return p.answered("Rewrite", p.j.Rewrite(next, changes...), p.w.rewrite(next, changes...))
}

// crash is the pair of disks that are found; these here are off from now on, their journals still held.
func (p *pair) crash(choices ...int) *pair {
	p.t.Helper()
	found := &pair{t: p.t, d: p.d.Crash(choices...), wd: p.wd.Crash(choices...)}
	p.hold()
	found.hold()
	return found
}

// want holds an answer that the test tells itself.
func (p *pair) want(got, want api.Errno) {
	p.t.Helper()
	if got != want {
		p.t.Fatalf("answered is %d, not %d", got, want)
	}
}

// ok holds that all were OK.
func (p *pair) ok(answers ...api.Errno) {
	p.t.Helper()
	for i, got := range answers {
		if got != api.OK {
			p.t.Fatalf("answer %d is %d", i, got)
		}
	}
}

// finds holds what Open answers, and how many acts it takes.
func (p *pair) finds(acts, wantNext int, want ...api.Change) {
	p.t.Helper()
	before := p.d.Acts()
	next, changes, e := p.openFor()
	if next != wantNext || !slices.Equal(changes, want) || e != api.OK || p.d.Acts() != before+acts {
		p.t.Fatalf("Open = %d, %v, %d, with %d acts; not %d, %v, with %d", next, changes, e, p.d.Acts()-before, wantNext, want, acts)
	}
}

// refuses holds the error that Open answers, and how many acts it takes.
func (p *pair) refuses(acts int, want api.Errno) {
	p.t.Helper()
	before := p.d.Acts()
	if e := p.open(); e != want || p.d.Acts() != before+acts {
		p.t.Fatalf("Open = %d, with %d acts; not %d, with %d", e, p.d.Acts()-before, want, acts)
	}
}

// tells holds what the journal tells of itself.
func (p *pair) tells(count, bytes, pending int) {
	p.t.Helper()
	if p.j.Count() != count || p.j.Bytes() != bytes || p.j.Pending() != pending {
		p.t.Fatalf("Count %d, Bytes %d, Pending %d; not %d, %d, %d", p.j.Count(), p.j.Bytes(), p.j.Pending(), count, bytes, pending)
	}
}

// acted holds how many acts the disk has done.
func (p *pair) acted(want int) {
	p.t.Helper()
	if p.d.Acts() != want {
		p.t.Fatalf("Acts %d, not %d", p.d.Acts(), want)
	}
}

// has holds which files the disk has: the journal alone, with these bytes, none of them loose.
func (p *pair) has(b []byte) {
	p.t.Helper()
	got, e := p.d.Read("journal")
	if !bytes.Equal(got, b) || e != api.OK || p.d.Loose("journal") != 0 || !slices.Equal(p.d.Names(), []string{"journal"}) {
		p.t.Fatalf("the disk has %q; the journal % x, %d, of which %d are loose; not % x", p.d.Names(), got, e, p.d.Loose("journal"), b)
	}
}

// several are changes of every kind, with numbers and texts at the edges.
func several() []api.Change {
	return []api.Change{
		subbed(1, "a {1}"), unsubbed(300), replaced(127, ""), subbed(128, "\x00"), unsubbed(1), replaced(16383, `a {1} & !c "x"*`), subbed(200, long(130)),
		unsubbed(api.MaxID), replaced(api.MaxID, "C\x02\x03\x01"), subbed(150, "H\x01"), subbed(5, "\xff\xfe é"),
	}
}

// wrongChanges are some that may not be.
func wrongChanges() []api.Change {
	return []api.Change{
		{}, {Kind: api.Sub}, {Kind: api.Match, ID: 1}, {Kind: 5, ID: 1}, {Kind: -1, ID: 1}, {Kind: 257, ID: 1, Text: "x"}, {ID: 1, Text: "x"},
		subbed(0, "x"), subbed(-1, "x"), subbed(api.MaxID+1, "x"), replaced(0, ""), replaced(api.MaxID+1, ""), unsubbed(0), unsubbed(-7), unsubbed(api.MaxID + 1),
		subbed(1, long(api.MaxText+1)), replaced(1, long(api.MaxText+1)), {Kind: api.Unsub, ID: 1, Text: "x"}, {Kind: api.Unsub, ID: 1, Text: "\x00"},
	}
}

// someChange is one that may be.
func someChange(chance *rand.Rand) api.Change {
	id := 1 + chance.IntN(1<<chance.IntN(40)+1)
	switch chance.IntN(3) {
	case 0:
		return unsubbed(id)
	case 1:
		return subbed(id, long(chance.IntN(40)))
	}
	return replaced(id, long(chance.IntN(40)))
}

// someChanges are a few, one of which, now and then, may not be.
func someChanges(chance *rand.Rand) []api.Change {
	var changes []api.Change
	for range chance.IntN(4) {
		changes = append(changes, someChange(chance))
	}
	if chance.IntN(8) == 0 {
		wrong := wrongChanges()[chance.IntN(len(wrongChanges()))]
		changes = slices.Insert(changes, chance.IntN(len(changes)+1), wrong)
	}
	return changes
}
