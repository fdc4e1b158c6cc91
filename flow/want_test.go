package flow_test

import (
	"fmt"
	"math"
	"math/big"
	"slices"
	"strings"
	"testing"

	"trommel/api"
	"trommel/book"
	"trommel/disk"
	"trommel/flow"
	"trommel/journal"
	"trommel/record"
	"trommel/schema"
)

// person is a user as the chapter tells it.
type person struct {
	unsent, inbox    []api.Call
	outbox, received []api.Answer
	submitted, sent  int
}

// pending is a call that was taken and isn't answered.
type pending struct {
	who    int
	answer api.Answer
	upTo   int // how many changes had been appended behind its take
}

// model is a system as the chapter tells it. Its book does each call wholly
// when it is taken, a Match too; of its shards it has nothing but how many
// tasks and pieces they have.
type model struct {
	c                api.Config
	b                *book.Book
	j                *journal.Journal
	people           []*person
	tasks, pieces    []int
	taken            []pending
	order            []int
	calls            []api.Call // those that were taken
	answered         int        // how many of these were put into an outbox
	appended, synced int        // changes
	stopped, down    bool
}

func between(lo, n, hi int) int {
	if n < lo {
		return lo
	}
	if n > hi {
		return hi
	}
	return n
}

func wantClamp(c api.Config) api.Config {
	return api.Config{
		Limits: api.Limits{Depth: between(1, c.Depth, 32), Conj: between(1, c.Conj, 64), Subs: between(0, c.Subs, 1024), Total: between(0, c.Total, 4096)},
		Shards: between(1, c.Shards, 8), Queue: between(1, c.Queue, 16), Window: between(1, c.Window, 16), Users: between(1, c.Users, 8),
	}
}

// wantNew is what New must answer of a disk, and do with it.
func wantNew(c api.Config, s *schema.Schema, d *disk.Disk) (*model, api.Errno) {
	j, next, changes, e := journal.Open(d)
	if e != api.OK {
		return nil, e
	}
	c = wantClamp(c)
	b := book.New(c.Limits, s)
	if e := b.Apply(changes...); e != api.OK {
		return nil, e
	}
	if e := b.Start(next); e != api.OK {
		return nil, e
	}
	m := &model{c: c, b: b, j: j, tasks: make([]int, c.Shards), pieces: make([]int, c.Shards)}
	for range c.Users {
		m.people = append(m.people, &person{})
	}
	return m, api.OK
}

func (m *model) submit(who int, calls []api.Call) api.Errno {
	switch {
	case who < 0 || who >= len(m.people):
		return api.ErrRange
	case m.stopped:
		return api.ErrStopped
	case m.down:
		return api.ErrDown
	}
	u := m.people[who]
	u.unsent = append(u.unsent, calls...)
	u.submitted += len(calls)
	return api.OK
}

func (m *model) canSend(who int) bool {
	u := m.people[who]
	return len(u.unsent) >= 1 && u.sent-len(u.received) < m.c.Window && len(u.inbox) < m.c.Queue
}

func (m *model) canReceive(who int) bool { return len(m.people[who].outbox) >= 1 }

func (m *model) canTake(who int) bool {
	for _, count := range m.tasks {
		if count == m.c.Queue {
			return false
		}
	}
	return len(m.people[who].inbox) >= 1
}

func (m *model) canSync(int) bool { return m.appended > m.synced }

func (m *model) canShard(who int) bool { return m.tasks[who] >= 1 && m.pieces[who] < m.c.Queue }

func (m *model) canMerge(int) bool {
	for _, count := range m.pieces {
		if count == 0 {
			return false
		}
	}
	oldest := m.taken[0]
	return oldest.upTo <= m.synced && len(m.people[oldest.who].outbox) < m.c.Window
}

// ready are the moves that are ready.
func (m *model) ready() []api.Move {
	var list []api.Move
	if m.down {
		return nil
	}
	for _, row := range []struct {
		kind, count int
		can         func(int) bool
	}{
		{api.MoveSend, m.c.Users, m.canSend}, {api.MoveReceive, m.c.Users, m.canReceive}, {api.MoveTake, m.c.Users, m.canTake}, {api.MoveSync, 1, m.canSync}, {api.MoveShard, m.c.Shards, m.canShard}, {api.MoveMerge, 1, m.canMerge},
	} {
		for who := range row.count {
			if row.can(who) {
				list = append(list, move(row.kind, who))
			}
		}
	}
	return list
}

// first takes the first item from a row.
func first[T any](row *[]T) T {
	item := (*row)[0]
	*row = (*row)[1:]
	return item
}

// do does a move that is ready.
func (m *model) do(one api.Move) {
	switch u := m.people; one.Kind {
	case api.MoveSend:
		u[one.Who].inbox = append(u[one.Who].inbox, first(&u[one.Who].unsent))
		u[one.Who].sent++
	case api.MoveReceive:
		u[one.Who].received = append(u[one.Who].received, first(&u[one.Who].outbox))
	case api.MoveTake:
		m.take(one.Who)
	case api.MoveSync:
		m.down = m.j.Sync() != api.OK
		m.synced = m.appended
	case api.MoveShard:
		m.tasks[one.Who]--
		m.pieces[one.Who]++
	case api.MoveMerge:
		for i := range m.pieces {
			m.pieces[i]--
		}
		oldest := first(&m.taken)
		u[oldest.who].outbox = append(u[oldest.who].outbox, oldest.answer)
		m.answered++
	}
}

func (m *model) take(who int) {
	c := first(&m.people[who].inbox)
	answer := m.b.Do(c)[0]
	if changes := changed(c, answer); len(changes) > 0 {
		if m.j.Append(changes...) != api.OK {
			m.down = true
			return
		}
		m.appended++
	}
	m.order, m.calls = append(m.order, who), append(m.calls, c)
	m.taken = append(m.taken, pending{who, answer, m.appended})
	for i := range m.tasks {
		m.tasks[i]++
	}
}

// changed is the change of a call that a book has answered so, if it is one.
func changed(c api.Call, a api.Answer) []api.Change {
	switch {
	case a.Code != api.OK:
	case c.Kind == api.Sub:
		return []api.Change{subbed(a.ID, c.Text)}
	case c.Kind == api.Replace:
		return []api.Change{replaced(c.ID, c.Text)}
	case c.Kind == api.Unsub:
		return []api.Change{unsubbed(c.ID)}
	}
	return nil
}

func (m *model) tidy() api.Errno {
	if m.down {
		return api.ErrDown
	}
	e := m.j.Rewrite(m.b.Next(), m.b.Changes()...)
	m.down = e != api.OK
	m.synced = m.appended
	return e
}

func (m *model) waiting(who int) int {
	u := m.people[who]
	return u.submitted - len(u.received)
}

// waits is how many calls wait.
func (m *model) waits() int {
	count := 0
	for who := range m.people {
		count += m.waiting(who)
	}
	return count
}

func move(kind, who int) api.Move { return api.Move{Kind: kind, Who: who} }

func sameAnswer(a, b api.Answer) bool {
	return a.Code == b.Code && a.ID == b.ID && slices.Equal(a.IDs, b.IDs)
}

func sameAnswers(a, b []api.Answer) bool { return slices.EqualFunc(a, b, sameAnswer) }

// twin is a disk with a system and another with a model, to which the same is done.
type twin struct {
	t  *testing.T
	c  api.Config
	s  *schema.Schema
	d  *disk.Disk
	w  *flow.World
	md *disk.Disk
	m  *model
}

// newTwin are two disks without files, and no system.
func newTwin(t *testing.T, c api.Config) *twin {
	t.Helper()
	return &twin{t: t, c: c, s: attributes(t), d: disk.New(), md: disk.New()}
}

// begun are two systems on new disks.
func begun(t *testing.T, c api.Config) *twin {
	t.Helper()
	p := newTwin(t, c)
	p.begin(api.OK)
	return p
}

// journalOf are the bytes of a journal.
func journalOf(t *testing.T, next int, changes ...api.Change) []byte {
	t.Helper()
	head, e := record.Head(next)
	if e != api.OK {
		t.Fatal(e)
	}
	lines, e := record.Encode(changes...)
	if e != api.OK {
		t.Fatal(e)
	}
	return append(head, lines...)
}

// act does something to both disks, behind the systems' back.
func (p *twin) act(do func(d *disk.Disk) api.Errno) {
	p.t.Helper()
	if got, want := do(p.d), do(p.md); got != want || got != api.OK {
		p.t.Fatalf("the disks answer %d and %d", got, want)
	}
	p.hold()
}

func (p *twin) arm(n, part int) {
	p.t.Helper()
	p.act(func(d *disk.Disk) api.Errno { return d.Arm(n, part) })
}

// lay puts bytes behind a file's end.
func (p *twin) lay(name string, b []byte, lasting bool) {
	p.t.Helper()
	p.act(func(d *disk.Disk) api.Errno { return d.Append(name, b...) })
	if lasting {
		p.act(func(d *disk.Disk) api.Errno { return d.Sync(name) })
	}
}

// crash are the disks that are found behind a crash of both, with no system yet.
func (p *twin) crash(choices ...int) *twin {
	p.t.Helper()
	return &twin{t: p.t, c: p.c, s: p.s, d: p.d.Crash(choices...), md: p.md.Crash(choices...)}
}

// begin makes both systems.
func (p *twin) begin(want api.Errno) {
	p.t.Helper()
	w, e := flow.New(p.c, p.s, p.d)
	m, wantE := wantNew(p.c, p.s, p.md)
	if e != wantE || e != want {
		p.t.Fatalf("New = %d, not %d, %d", e, wantE, want)
	}
	if (w == nil) != (e != api.OK) {
		p.t.Fatalf("beside %d there is a system: %v", e, w != nil)
	}
	p.w, p.m = w, m
	p.hold()
}

// beginsWith makes both, and holds how many acts that takes.
func (p *twin) beginsWith(acts int, want api.Errno) {
	p.t.Helper()
	before := p.d.Acts()
	p.begin(want)
	p.took(before, acts)
}

func (p *twin) took(before, acts int) {
	p.t.Helper()
	if got := p.d.Acts() - before; got != acts {
		p.t.Fatalf("%d acts, not %d", got, acts)
	}
}

// submits holds what Submit answers to what is said too.
func (p *twin) submits(want api.Errno, who int, calls ...api.Call) {
	p.t.Helper()
	got, model := p.w.Submit(who, calls...), p.m.submit(who, calls)
	if got != model || got != want {
		p.t.Fatalf("Submit(%d, %v) = %d, not %d, %d", who, calls, got, model, want)
	}
	p.hold()
}

func (p *twin) submit(who int, calls ...api.Call) {
	p.t.Helper()
	p.submits(api.OK, who, calls...)
}

func (p *twin) stop() {
	p.t.Helper()
	p.w.Stop()
	p.m.stopped = true
	p.hold()
}

// wantStep does the move to which a pick comes.
func (m *model) wantStep(pick int) (api.Move, bool) {
	list := m.ready()
	if len(list) == 0 {
		return api.Move{}, false
	}
	// Mod's answer is never below 0.
	place := new(big.Int).Mod(big.NewInt(int64(pick)), big.NewInt(int64(len(list))))
	one := list[place.Int64()]
	m.do(one)
	return one, true
}

func (p *twin) step(pick int) (api.Move, bool) {
	p.t.Helper()
	got, ok := p.w.Step(pick)
	want, wantOK := p.m.wantStep(pick)
	if got != want || ok != wantOK {
		p.t.Fatalf("Step(%d) = %v, %v, not %v, %v", pick, got, ok, want, wantOK)
	}
	p.hold()
	return got, ok
}

// moves does these moves, each of which must be ready.
func (p *twin) moves(list ...api.Move) {
	p.t.Helper()
	for _, one := range list {
		pick := slices.Index(p.w.Ready(), one)
		if pick < 0 {
			p.t.Fatalf("%v isn't among %v", one, p.w.Ready())
		}
		if got, ok := p.step(pick); got != one || !ok {
			p.t.Fatalf("Step(%d) = %v, %v, not %v", pick, got, ok, one)
		}
	}
}

// ready holds which moves are ready.
func (p *twin) ready(want ...api.Move) {
	p.t.Helper()
	p.hold()
	if got := p.w.Ready(); !slices.Equal(got, want) {
		p.t.Fatalf("Ready = %v, not %v", got, want)
	}
}

// can holds that a move is ready, or that it isn't.
func (p *twin) can(want bool, kind, who int) {
	p.t.Helper()
	p.hold()
	if got := slices.Contains(p.w.Ready(), move(kind, who)); got != want {
		p.t.Fatalf("%d of %d is ready: %v; Ready = %v", kind, who, got, p.w.Ready())
	}
}

// runs holds how many steps these picks come to.
func (p *twin) runs(want int, picks ...int) {
	p.t.Helper()
	got := p.w.Run(picks...)
	count := 0
	for _, pick := range picks {
		if _, ok := p.m.wantStep(pick); !ok {
			break
		}
		count++
	}
	if got != count || got != want {
		p.t.Fatalf("Run(%v) = %d, not %d, %d", picks, got, count, want)
	}
	p.hold()
}

// drain is how many steps are done till nothing is ready.
func (p *twin) drain() int {
	p.t.Helper()
	got, count := p.w.Drain(), 0
	for len(p.m.ready()) > 0 {
		p.m.wantStep(0)
		count++
	}
	if got != count {
		p.t.Fatalf("Drain = %d, not %d", got, count)
	}
	p.hold()
	return got
}

func (p *twin) tidies(want api.Errno) {
	p.t.Helper()
	got, model := p.w.Tidy(), p.m.tidy()
	if got != model || got != want {
		p.t.Fatalf("Tidy = %d, not %d, %d", got, model, want)
	}
	p.hold()
}

// received holds what a user has received.
func (p *twin) received(who int, want ...api.Answer) {
	p.t.Helper()
	if got := p.w.Answers(who); !sameAnswers(got, want) {
		p.t.Fatalf("Answers(%d) = %v, not %v", who, got, want)
	}
}

// answers submits calls, drains, and holds what the user has received of them.
func (p *twin) answers(who int, calls []api.Call, want ...api.Answer) {
	p.t.Helper()
	before := len(p.w.Answers(who))
	p.submit(who, calls...)
	p.drain()
	if got := p.w.Answers(who)[before:]; !sameAnswers(got, want) {
		p.t.Fatalf("%v are answered %v, not %v", calls, got, want)
	}
}

// isDown holds that the system is down, and that every call tells so.
func (p *twin) isDown() {
	p.t.Helper()
	if !p.w.Down() {
		p.t.Fatal("the system isn't down")
	}
	acts := p.d.Acts()
	p.ready()
	for _, pick := range []int{math.MinInt, -1, 0, 1, math.MaxInt} {
		if one, ok := p.step(pick); one != (api.Move{}) || ok {
			p.t.Fatalf("Step(%d) = %v, %v", pick, one, ok)
		}
	}
	p.runs(0)
	p.runs(0, 0)
	p.runs(0, 1, 2, 3)
	if got := p.drain(); got != 0 {
		p.t.Fatalf("Drain = %d", got)
	}
	p.tidies(api.ErrDown)
	e := api.ErrDown
	if p.m.stopped {
		e = api.ErrStopped
	}
	p.submits(e, 0)
	p.submits(e, p.m.c.Users-1, sub("a {1}"), match())
	p.submits(api.ErrRange, p.m.c.Users, sub("a {1}"))
	p.submits(api.ErrRange, -1)
	p.took(acts, 0)
}

// filesOf are a disk's files: names, how many bytes are loose, and the bytes.
func filesOf(d *disk.Disk) string {
	var s strings.Builder
	for _, name := range d.Names() {
		b, _ := d.Read(name)
		fmt.Fprintf(&s, "%q %d %q\n", name, d.Loose(name), b)
	}
	return s.String()
}

// hold holds that both disks are alike, and that the system tells what the model does.
func (p *twin) hold() {
	p.t.Helper()
	if p.d.Acts() != p.md.Acts() || p.d.Off() != p.md.Off() {
		p.t.Fatalf("Acts %d, Off %v; not %d, %v", p.d.Acts(), p.d.Off(), p.md.Acts(), p.md.Off())
	}
	if got, want := filesOf(p.d), filesOf(p.md); got != want {
		p.t.Fatalf("the disk has %s, not %s", got, want)
	}
	if p.w == nil {
		return
	}
	if got, want := p.w.Ready(), p.m.ready(); !slices.Equal(got, want) {
		p.t.Fatalf("Ready = %v, not %v", got, want)
	}
	if got := p.w.Order(); !slices.Equal(got, p.m.order) {
		p.t.Fatalf("Order = %v, not %v", got, p.m.order)
	}
	if p.w.Down() != p.m.down {
		p.t.Fatalf("Down = %v", p.w.Down())
	}
	for who, u := range p.m.people {
		if got := p.w.Answers(who); !sameAnswers(got, u.received) {
			p.t.Fatalf("Answers(%d) = %v, not %v", who, got, u.received)
		}
		if got := p.w.Waiting(who); got != p.m.waiting(who) {
			p.t.Fatalf("Waiting(%d) = %d, not %d", who, got, p.m.waiting(who))
		}
	}
	for _, who := range []int{math.MinInt, -1, p.m.c.Users, p.m.c.Users + 1, api.MaxUsers, 99, 1 << 32, math.MaxInt} {
		if got := p.w.Answers(who); len(got) != 0 || p.w.Waiting(who) != 0 {
			p.t.Fatalf("of the user %d, who isn't there: %v, %d", who, got, p.w.Waiting(who))
		}
	}
	if !p.m.down {
		p.holdRegistry()
	}
}

// holdRegistry holds what a system that isn't down tells of its registry.
func (p *twin) holdRegistry() {
	p.t.Helper()
	w, b := p.w, p.m.b
	if got := w.Changes(); !slices.Equal(got, b.Changes()) {
		p.t.Fatalf("Changes = %v, not %v", got, b.Changes())
	}
	if w.Subs() != b.Subs() || w.Total() != b.Total() || w.Next() != b.Next() {
		p.t.Fatalf("Subs %d, Total %d, Next %d; not %d, %d, %d", w.Subs(), w.Total(), w.Next(), b.Subs(), b.Total(), b.Next())
	}
	if c := w.Counts; c.Subs() != w.Subs() || c.Total() != w.Total() || c.Next() != w.Next() {
		p.t.Fatalf("of the Counts %d, %d, %d", c.Subs(), c.Total(), c.Next())
	}
}
