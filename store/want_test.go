package store_test

import (
	"fmt"
	"math"
	"slices"
	"strings"
	"testing"

	"trommel/api"
	"trommel/book"
	"trommel/disk"
	"trommel/journal"
	"trommel/key"
	"trommel/record"
	"trommel/schema"
	"trommel/store"
)

// ledger is a store as the chapter tells it: a book, which asks each
// expression by itself, and a journal. It has no index.
type ledger struct {
	s    *schema.Schema
	b    *book.Book
	j    *journal.Journal
	down bool
}

// wantOpen is what Open must answer of a disk, and do with it.
func wantOpen(l api.Limits, s *schema.Schema, d *disk.Disk) (*ledger, api.Errno) {
	j, next, changes, e := journal.Open(d)
	if e != api.OK {
		return nil, e
	}
	b := book.New(book.Clamp(l), s)
	if e := b.Apply(changes...); e != api.OK {
		return nil, e
	}
	if e := b.Start(next); e != api.OK {
		return nil, e
	}
	return &ledger{s: s, b: b, j: j}, api.OK
}

// changed are the changes of calls that a book has answered so.
func changed(calls []api.Call, answers []api.Answer) []api.Change {
	var changes []api.Change
	for i, c := range calls {
		switch {
		case answers[i].Code != api.OK || c.Kind == api.Match:
		case c.Kind == api.Sub:
			changes = append(changes, subbed(answers[i].ID, c.Text))
		case c.Kind == api.Replace:
			changes = append(changes, replaced(c.ID, c.Text))
		case c.Kind == api.Unsub:
			changes = append(changes, unsubbed(c.ID))
		}
	}
	return changes
}

func allDown(calls []api.Call) []api.Answer {
	return slices.Repeat([]api.Answer{code(api.ErrDown)}, len(calls))
}

func (l *ledger) do(calls ...api.Call) []api.Answer {
	if l.down {
		return allDown(calls)
	}
	answers := l.b.Do(calls...)
	changes := changed(calls, answers)
	if len(changes) == 0 {
		return answers
	}
	if l.j.Append(changes...) != api.OK || l.j.Sync() != api.OK {
		l.down = true
		return allDown(calls)
	}
	return answers
}

func (l *ledger) compact() api.Errno {
	if l.down {
		return api.ErrDown
	}
	e := l.j.Rewrite(l.b.Next(), l.b.Changes()...)
	l.down = e != api.OK
	return e
}

func (l *ledger) opens(event []api.Pair) ([]api.Opened, api.Errno) {
	if l.down {
		return nil, api.ErrDown
	}
	pairs, e := l.s.Event(event...)
	if e != api.OK {
		return nil, api.ErrKind
	}
	return listsOf(l.b, pairs), api.OK
}

// standing is a post: a conjunction, by its subscription and its place there, stands in a list of a partition.
type standing struct {
	id, place int
	out       bool
	part      int
	api.Key
}

// standings are all posts of a book's conjunctions, each once.
func standings(b *book.Book) []standing {
	seen := map[standing]int{}
	for _, id := range b.IDs() {
		for place, c := range b.Conjs(id) {
			if c.Never {
				continue
			}
			part := len(c.Pos)
			for _, p := range c.Pos {
				for _, k := range key.Of(p) {
					seen[standing{id, place, false, part, k}]++
				}
			}
			for _, p := range c.Neg {
				for _, k := range key.Of(p) {
					seen[standing{id, place, true, part, k}]++
				}
			}
			if part == 0 {
				seen[standing{id, place, false, 0, key.Zero()}]++
			}
		}
	}
	var all []standing
	for post := range seen {
		all = append(all, post)
	}
	return all
}

// listsOf are the lists that a match of an event opens, found post by post.
func listsOf(b *book.Book, event []api.Pair) []api.Opened {
	keys := key.Event(event)
	posts := map[api.Opened]int{}
	for _, post := range standings(b) {
		if slices.Contains(keys, post.Key) && post.part <= len(event) || post.Key == key.Zero() {
			posts[api.Opened{Part: post.part, Key: post.Key}]++
		}
	}
	var lists []api.Opened
	for list, count := range posts {
		list.Posts = count
		lists = append(lists, list)
	}
	slices.SortFunc(lists, func(a, b api.Opened) int {
		if a.Part != b.Part {
			return a.Part - b.Part
		}
		return key.Compare(a.Key, b.Key)
	})
	return lists
}

func sameAnswer(a, b api.Answer) bool {
	return a.Code == b.Code && a.ID == b.ID && slices.Equal(a.IDs, b.IDs)
}

func sameAnswers(a, b []api.Answer) bool { return slices.EqualFunc(a, b, sameAnswer) }

// twin is a disk with a store and another with a ledger, to which the same is done.
type twin struct {
	t      *testing.T
	limits api.Limits
	s      *schema.Schema
	d      *disk.Disk
	x      *store.Store
	wd     *disk.Disk
	w      *ledger
}

// newTwin are two disks without files, and no store.
func newTwin(t *testing.T, l api.Limits) *twin {
	t.Helper()
	return &twin{t: t, limits: l, s: attributes(t), d: disk.New(), wd: disk.New()}
}

// opened are two stores on new disks.
func opened(t *testing.T, l api.Limits) *twin {
	t.Helper()
	p := newTwin(t, l)
	p.open(api.OK)
	return p
}

// laid are two disks whose journal has this head's number and these changes, whether they fit or not.
func laid(t *testing.T, l api.Limits, next int, changes ...api.Change) *twin {
	t.Helper()
	p := newTwin(t, l)
	p.act(func(d *disk.Disk) api.Errno {
		j, _, _, e := journal.Open(d)
		if e != api.OK {
			return e
		}
		return j.Rewrite(next, changes...)
	})
	return p
}

// act does something to both disks, behind the stores' back.
func (p *twin) act(do func(d *disk.Disk) api.Errno) {
	p.t.Helper()
	if got, want := do(p.d), do(p.wd); got != want || got != api.OK {
		p.t.Fatalf("the disks answer %d and %d", got, want)
	}
	p.hold()
}

func (p *twin) arm(n, part int) {
	p.t.Helper()
	p.act(func(d *disk.Disk) api.Errno { return d.Arm(n, part) })
}

// lay puts bytes behind a file's end.
func (p *twin) lay(name string, b []byte, lasting bool) {
	p.t.Helper()
	p.act(func(d *disk.Disk) api.Errno { return d.Append(name, b...) })
	if lasting {
		p.act(func(d *disk.Disk) api.Errno { return d.Sync(name) })
	}
}

// filesOf are a disk's files: names, how many bytes are loose, and the bytes.
func filesOf(d *disk.Disk) string {
	var s strings.Builder
	for _, name := range d.Names() {
		b, _ := d.Read(name)
		fmt.Fprintf(&s, "%q %d %q\n", name, d.Loose(name), b)
	}
	return s.String()
}

// hold holds that both disks are alike, and that both stores tell the same.
func (p *twin) hold() {
	p.t.Helper()
	if p.d.Acts() != p.wd.Acts() || p.d.Off() != p.wd.Off() {
		p.t.Fatalf("Acts %d, Off %v; not %d, %v", p.d.Acts(), p.d.Off(), p.wd.Acts(), p.wd.Off())
	}
	if got, want := filesOf(p.d), filesOf(p.wd); got != want {
		p.t.Fatalf("the disk has %s, not %s", got, want)
	}
	if (p.x == nil) != (p.w == nil) {
		p.t.Fatalf("there is a store: %v", p.x != nil)
	}
	if p.x == nil {
		return
	}
	if p.x.Down() != p.w.down {
		p.t.Fatalf("Down = %v", p.x.Down())
	}
	if !p.w.down {
		p.holdTold()
	}
}

// holdTold holds what a store that isn't down tells of its registry.
func (p *twin) holdTold() {
	p.t.Helper()
	x, b := p.x, p.w.b
	if x.Subs() != b.Subs() || x.Total() != b.Total() || x.Next() != b.Next() {
		p.t.Fatalf("Subs %d, Total %d, Next %d; not %d, %d, %d", x.Subs(), x.Total(), x.Next(), b.Subs(), b.Total(), b.Next())
	}
	if c := x.Counts; c.Subs() != x.Subs() || c.Total() != x.Total() || c.Next() != x.Next() {
		p.t.Fatalf("of the Counts %d, %d, %d", c.Subs(), c.Total(), c.Next())
	}
	if got := x.IDs(); !slices.Equal(got, b.IDs()) {
		p.t.Fatalf("IDs = %v, not %v", got, b.IDs())
	}
	ids := []int{math.MinInt, -1, 0, 1, 2, 3, b.Next() - 1, b.Next(), b.Next() + 1, api.MaxID, api.MaxID + 1, math.MaxInt}
	for _, id := range b.IDs() {
		ids = append(ids, id-1, id, id+1, -id)
	}
	for _, id := range ids {
		text, there := b.Text(id)
		if got, ok := x.Text(id); got != text || ok != there {
			p.t.Fatalf("Text(%d) = %q, %v, not %q, %v", id, got, ok, text, there)
		}
	}
}

// open opens both; the stores are these from now on.
func (p *twin) open(want api.Errno) {
	p.t.Helper()
	x, e := store.Open(p.limits, p.s, p.d)
	w, wantE := wantOpen(p.limits, p.s, p.wd)
	if e != wantE || e != want {
		p.t.Fatalf("Open = %d, not %d, %d", e, wantE, want)
	}
	if (x == nil) != (e != api.OK) {
		p.t.Fatalf("beside %d there is a store: %v", e, x != nil)
	}
	p.x, p.w = x, w
	p.hold()
}

// opensWith opens both, and holds how many acts that takes.
func (p *twin) opensWith(acts int, want api.Errno) {
	p.t.Helper()
	before := p.d.Acts()
	p.open(want)
	p.took(before, acts)
}

func (p *twin) took(before, acts int) {
	p.t.Helper()
	if got := p.d.Acts() - before; got != acts {
		p.t.Fatalf("%d acts, not %d", got, acts)
	}
}

func (p *twin) do(calls ...api.Call) []api.Answer {
	p.t.Helper()
	got, want := p.x.Do(calls...), p.w.do(calls...)
	if !sameAnswers(got, want) {
		p.t.Fatalf("%v are answered %v, not %v", calls, got, want)
	}
	p.hold()
	return got
}

// answered does calls, and holds their acts and answers to what is said too.
func (p *twin) answered(acts int, calls []api.Call, want ...api.Answer) {
	p.t.Helper()
	before := p.d.Acts()
	if got := p.do(calls...); !sameAnswers(got, want) {
		p.t.Fatalf("%v are answered %v, not %v", calls, got, want)
	}
	p.took(before, acts)
}

func (p *twin) compact(want api.Errno) {
	p.t.Helper()
	got := p.x.Compact()
	if w := p.w.compact(); got != w || got != want {
		p.t.Fatalf("Compact = %d, not %d, %d", got, w, want)
	}
	p.hold()
}

// opens holds what Opens answers, and that it takes no act.
func (p *twin) opens(event []api.Pair) []api.Opened {
	p.t.Helper()
	before := p.d.Acts()
	got, e := p.x.Opens(event)
	want, wantE := p.w.opens(event)
	if !slices.Equal(got, want) || e != wantE {
		p.t.Fatalf("Opens(%v) = %v, %d, not %v, %d", event, got, e, want, wantE)
	}
	p.took(before, 0)
	return got
}

// asks holds what each event is answered.
func (p *twin) asks(events [][]api.Pair) {
	p.t.Helper()
	for _, event := range events {
		p.do(match(event...))
		p.opens(event)
	}
}

// crash are the disks that are found; there is no store on them yet.
func (p *twin) crash(choices ...int) *twin {
	p.t.Helper()
	found := &twin{t: p.t, limits: p.limits, s: p.s, d: p.d.Crash(choices...), wd: p.wd.Crash(choices...)}
	p.hold()
	found.hold()
	return found
}

// isDown holds that every call of a store that is down is answered so, and that nothing is done.
func (p *twin) isDown() {
	p.t.Helper()
	before := p.d.Acts()
	if !p.x.Down() {
		p.t.Fatal("the store isn't down")
	}
	for range 2 {
		for _, calls := range [][]api.Call{nil, {match()}, {sub("a {1}")}, {sub("a {")}, {replace(1, "a {2}"), unsub(1), {}, match(number("z", 1)), match(number("a", 1))}} {
			p.answered(0, calls, allDown(calls)...)
		}
		for _, event := range fewEvents() {
			if lists, e := p.x.Opens(event); len(lists) != 0 || e != api.ErrDown {
				p.t.Fatalf("Opens = %v, %d", lists, e)
			}
		}
		p.compact(api.ErrDown)
	}
	p.took(before, 0)
}

// journalOf is what the file must have that was written with just these.
func journalOf(t *testing.T, next int, changes ...api.Change) []byte {
	t.Helper()
	head, e := record.Head(next)
	records, f := record.Encode(changes...)
	if e != api.OK || f != api.OK {
		t.Fatal(e, f)
	}
	return append(head, records...)
}

// has holds that the disk has the journal alone, with these bytes, none of them loose.
func (p *twin) has(want []byte) {
	p.t.Helper()
	got, e := p.d.Read("journal")
	if string(got) != string(want) || e != api.OK || p.d.Loose("journal") != 0 || !slices.Equal(p.d.Names(), []string{"journal"}) {
		p.t.Fatalf("the disk has %q; the journal %q, %d, of which %d are loose; not %q", p.d.Names(), got, e, p.d.Loose("journal"), want)
	}
}
