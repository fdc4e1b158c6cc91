package flow_test

import (
	"fmt"
	"math/rand/v2"
	"slices"
	"testing"

	"trommel/api"
	"trommel/book"
	"trommel/disk"
	"trommel/flow"
	"trommel/schema"
)

// deed is what is done with a system: calls are submitted, or steps are done, or it is tidied.
type deed struct {
	who   int
	calls []api.Call
	picks []int
	tidy  bool
}

func submitting(who int, calls ...api.Call) deed { return deed{who: who, calls: calls} }

func stepping(picks ...int) deed { return deed{picks: picks} }

var tidying = deed{tidy: true}

// history is what deeds came to: the registry that New found, the calls in the order of the takes, and how many of them were answered.
type history struct {
	c        api.Config
	s        *schema.Schema
	base     []api.Change // what makes the registry that New found, and
	next     int          // its next number
	calls    []api.Call   // the last one may be that in whose take the power went
	answered int
	lasting  int // how many of the calls were taken when the journal was synced or written anew last
}

// registries are those that the book has behind so many of the calls, from those that were answered on.
func (h *history) registries(t *testing.T) []*book.Book {
	t.Helper()
	var all []*book.Book
	for count := max(h.answered, h.lasting); count <= len(h.calls); count++ {
		b := book.New(h.c.Limits, h.s)
		if b.Apply(h.base...) != api.OK || b.Start(h.next) != api.OK {
			t.Fatal("the registry that was found isn't one")
		}
		b.Do(h.calls[:count]...)
		all = append(all, b)
	}
	return all
}

// rows are the users' calls that weren't taken.
type rows map[int][]api.Call

// run does deeds up to the moment when the system is down.
func (h *history) run(w *flow.World, deeds ...deed) {
	left := rows{}
	for _, one := range deeds {
		if one.tidy {
			if w.Tidy() == api.OK {
				h.lasting = len(h.calls)
			}
		}
		if w.Submit(one.who, one.calls...) == api.OK {
			left[one.who] = append(left[one.who], one.calls...)
		}
		for _, pick := range one.picks {
			h.step(w, left, pick)
		}
		if w.Down() {
			return
		}
	}
}

// step does one, and sees what it came to.
func (h *history) step(w *flow.World, left rows, pick int) {
	one, _ := w.Step(pick)
	switch one.Kind {
	case api.MoveTake:
		row := left[one.Who]
		h.calls, left[one.Who] = append(h.calls, row[0]), row[1:]
	case api.MoveSync:
		if !w.Down() {
			h.lasting = len(h.calls)
		}
	case api.MoveMerge:
		h.answered++
	}
}

// begin makes a system on a new disk and does deeds.
func begin(c api.Config, s *schema.Schema, d *disk.Disk, deeds ...deed) (history, *flow.World) {
	h := history{c: c, s: s, next: 1}
	w, e := flow.New(c, s, d)
	if e == api.OK {
		h.run(w, deeds...)
	}
	return h, w
}

// is tells whether a system's registry is a book's; what it meets, too.
func is(w *flow.World, b *book.Book) bool {
	if w.Subs() != b.Subs() || w.Total() != b.Total() || w.Next() != b.Next() || !slices.Equal(w.Changes(), b.Changes()) || w.Down() {
		return false
	}
	var calls []api.Call
	for _, event := range fewEvents() {
		calls = append(calls, match(event...))
	}
	before := len(w.Answers(0))
	w.Submit(0, calls...)
	w.Drain()
	return sameAnswers(w.Answers(0)[before:], b.Do(calls...))
}

// explorer goes through all that may be found, each once.
type explorer struct {
	t    *testing.T
	seen map[string]int
	most int         // how many losses of power one behind the other it has seen
	kept map[int]int // how often so many calls were found beyond those that must be
}

// look makes the system of what is found behind a crash, whole and with the
// power going at each act of that New, and then again of what is found behind
// that.
func (x *explorer) look(crashed *disk.Disk, choices []int, h *history, losses int) {
	x.t.Helper()
	key := fmt.Sprint(filesOf(crashed.Crash(choices...)), len(h.calls), h.answered, h.lasting)
	if x.seen[key]++; x.seen[key] > 1 {
		return
	}
	x.most = max(x.most, losses)
	d := crashed.Crash(choices...)
	w, e := flow.New(h.c, h.s, d)
	if e != api.OK {
		x.t.Fatalf("New over what is found = %d", e)
	}
	count := slices.IndexFunc(h.registries(x.t), func(b *book.Book) bool { return is(w, b) })
	if count < 0 {
		x.t.Fatalf("found are %v, next %d; behind %v, next %d, and of %v at least %d", w.Changes(), w.Next(), h.base, h.next, h.calls, max(h.answered, h.lasting))
	}
	x.kept[count]++
	acts := d.Acts()
	for n := 1; n <= acts; n++ {
		for _, part := range []int{0, 1, 5, 6, 20, 1000} {
			again := crashed.Crash(choices...)
			again.Arm(n, part)
			if w, e := flow.New(h.c, h.s, again); w != nil || e != api.ErrDown {
				x.t.Fatalf("New = %v, %d", w != nil, e)
			}
			for _, choices := range [][]int{nil, {-1}, {-1, -1}, {3, 8}} {
				x.look(again, choices, h, losses+1)
			}
		}
	}
}

// schedule are deeds with the config of their system.
type schedule struct {
	c     api.Config
	deeds []deed
}

// schedules are those at whose every act the power is to go.
func schedules() []schedule {
	a1 := match(number("a", 1))
	zeros := func(count int) deed { return deed{picks: make([]int, count)} }
	return []schedule{
		{config(narrow, 2, 1, 1, 2), []deed{submitting(0, sub("a {1}"), sub("b {1}")), submitting(1, a1, unsub(1)), zeros(60)}},
		{config(narrow, 1, 4, 4, 2), []deed{submitting(0, sub("a {1}"), replace(1, "a {2}"), unsub(1), sub("a {3}")), submitting(1, sub("b {1} | b {2}"), unsub(2)), zeros(9), stepping(-1, -1, -2, 5, 3), zeros(60)}},
		{config(narrow, 2, 2, 3, 3), []deed{submitting(0, sub("a {1}"), a1), zeros(3), tidying, submitting(1, sub("a {1}"), replace(1, wide(3)), unsub(1)), stepping(1, 2, 3, 4, 5, 6, 7), tidying, stepping(7, 6, 5, 4, 3), submitting(2, sub("b {2}"), sub("a")), stepping(-1, -1, -1, -1), tidying, zeros(80), tidying}},
		{config(most, 3, 16, 16, 1), []deed{submitting(0, sub("a {1}"), unsub(1), sub("b {1}"), sub("c {"), unsub(2), a1), zeros(12), tidying, zeros(3), submitting(0, sub("a {1}")), zeros(60)}},
		{config(narrow, 1, 1, 1, 1), []deed{tidying, tidying, submitting(0, unsub(1), sub("a {1}")), zeros(12), tidying}},
	}
}

// P23.4, P7: the power goes at every act of a schedule, with every number of bytes of an Append that is cut, with several choices of what is found; and again in the New behind it, and so on; with Tidy between the steps.
func TestPowerGoesAtEveryAct(t *testing.T) {
	s := attributes(t)
	for i, row := range schedules() {
		x := &explorer{t, map[string]int{}, 0, map[int]int{}}
		whole := disk.New()
		if _, w := begin(row.c, s, whole, row.deeds...); w == nil || w.Down() || len(w.Ready()) > 0 {
			t.Fatal(i, "the deeds don't come to their end")
		}
		for n := 1; n <= whole.Acts(); n++ {
			for part := range 60 {
				d := disk.New()
				d.Arm(n, part)
				h, w := begin(row.c, s, d, row.deeds...)
				if w != nil && !w.Down() || d.Acts() != n-1 {
					t.Fatalf("row %d, armed with %d: %d acts", i, n, d.Acts())
				}
				for _, choices := range [][]int{nil, {-1}, {-1, -1}, {part / 2}, {part / 3, 2 * part / 3}, {part, part}, {0, part}, {13, 13}} {
					x.look(d, choices, &h, 1)
				}
			}
		}
		if x.most < 3 {
			t.Errorf("row %d: only %d losses of power one behind the other", i, x.most)
		}
		if i == 1 && (x.kept[0] == 0 || x.kept[1] == 0 || x.kept[2] == 0) {
			t.Errorf("row %d: the calls that were found: %v", i, x.kept)
		}
	}
}

// P23.4: the power goes between two acts, behind each step; all that was answered is found, and a change that wasn't synced, or isn't.
func TestPowerGoesBetweenActs(t *testing.T) {
	s := attributes(t)
	for i, row := range schedules() {
		x := &explorer{t, map[string]int{}, 0, map[int]int{}}
		var steps []deed
		for _, one := range row.deeds {
			steps = append(steps, deed{who: one.who, calls: one.calls, tidy: one.tidy})
			for _, pick := range one.picks {
				steps = append(steps, stepping(pick))
			}
		}
		for count := range len(steps) + 1 {
			d := disk.New()
			h, w := begin(row.c, s, d, steps[:count]...)
			if w == nil || w.Down() {
				t.Fatal(i, "there was no power")
			}
			for _, choices := range [][]int{nil, {-1}, {7}, {20}, {30}} {
				x.look(d, choices, &h, 1)
			}
		}
		if i < 3 && (x.kept[0] == 0 || x.kept[1] == 0) {
			t.Errorf("row %d: the calls that were found: %v", i, x.kept)
		}
	}
}

// P23.4: the call in whose take the power went may count as one more, if its record is whole, and only then.
func TestTakeInWhichThePowerWent(t *testing.T) {
	s := attributes(t)
	record := len(journalOf(t, 1, subbed(2, "b {1}"))) - len(journalOf(t, 1))
	for part := range record + 3 {
		d := disk.New()
		w, _ := flow.New(config(most, 2, 2, 2, 1), s, d)
		w.Submit(0, sub("a {1}"), sub("b {1}"))
		w.Run(0, 0, 0)
		d.Arm(1, part)
		w.Run(0)
		if !w.Down() || len(w.Order()) != 1 {
			t.Fatalf("Down = %v, Order = %v", w.Down(), w.Order())
		}
		for kept := range 2*record + 1 {
			// The first one isn't synced either: it must be whole ahead of the other.
			f, e := flow.New(config(most, 1, 1, 1, 1), s, d.Crash(kept))
			if e != api.OK {
				t.Fatal(e)
			}
			loose := min(part, record)
			want := kept % (record + loose + 1) / record
			if f.Subs() != want || f.Next() != want+1 {
				t.Fatalf("with %d bytes, of which %d are found: Subs %d, Next %d", part, kept, f.Subs(), f.Next())
			}
		}
	}
}

// The document's example 7: the power goes at the Sync of a Sub.
func TestExamplePower(t *testing.T) {
	p := begun(t, config(most, 2, 1, 1, 2))
	p.submit(0, sub("a {1}"))
	p.moves(send(0), take(0))
	p.arm(1, 0)
	p.moves(syncs)
	p.isDown()
	p.received(0)
	for choice, want := range map[int]int{0: 0, 5: 0, 12: 0, 13: 1, -1: 1} {
		f := p.crash(choice)
		f.begin(api.OK)
		if f.w.Subs() != want {
			t.Errorf("behind Crash(%d) Subs = %d", choice, f.w.Subs())
		}
		f.answers(1, []api.Call{match(number("a", 1)), sub("a {1}")}, met([]int{1}[:want]...), given(want+1))
	}
}

// P23.4, P7: what was answered is there behind every crash: a user that has its answer finds its change, under every choice.
func TestAnsweredLasts(t *testing.T) {
	for shards := 1; shards <= 3; shards++ {
		p := begun(t, config(most, shards, 4, 4, 2))
		p.submit(0, sub("a {1}"), sub("a {2}"), replace(1, "b {1}"), unsub(2))
		p.submit(1, sub("c {\"x\"}"))
		for {
			answered := p.m.answered
			for choice := range 60 {
				f, e := flow.New(p.c, p.s, copied(t, p.d).Crash(choice))
				if e != api.OK {
					t.Fatal(e)
				}
				found := false
				for count := answered; count <= len(p.m.calls); count++ {
					b := book.New(p.c.Limits, p.s)
					b.Do(p.m.calls[:count]...)
					found = found || is(f, b)
				}
				if !found {
					t.Fatalf("%d of %v were answered; found is %v", answered, p.m.calls, f.Changes())
				}
			}
			if _, ok := p.step(-1); !ok {
				break
			}
		}
	}
}

// copied is a disk with the same files, lasting and loose as they are.
func copied(t *testing.T, d *disk.Disk) *disk.Disk {
	t.Helper()
	f := disk.New()
	for _, name := range d.Names() {
		b, e := d.Read(name)
		if e != api.OK {
			t.Fatal(e)
		}
		lasting := len(b) - d.Loose(name)
		f.Append(name, b[:lasting]...)
		f.Sync(name)
		f.Append(name, b[lasting:]...)
	}
	return f
}

func someDeeds(chance *rand.Rand, users int) []deed {
	var deeds []deed
	for range chance.IntN(14) {
		switch chance.IntN(6) {
		case 0:
			deeds = append(deeds, tidying)
		case 1, 2:
			deeds = append(deeds, submitting(chance.IntN(users), someCall(chance, 2, 5), someCall(chance, 2, 5)))
		default:
			var picks []int
			for range chance.IntN(15) {
				picks = append(picks, somePick(chance))
			}
			deeds = append(deeds, stepping(picks...))
		}
	}
	return deeds
}

// P23.4, P7: by chance, through many losses of power, in steps, in Tidy and in New; what was found is what lasts.
func TestManyLosses(t *testing.T) {
	chance := rand.New(rand.NewPCG(23, 7))
	s := attributes(t)
	inNew, inDeeds, more := 0, 0, 0
	choice := func() int {
		if chance.IntN(2) == 0 {
			return -1
		}
		return chance.IntN(300)
	}
	for range 400 {
		d := disk.New()
		c := someConfig(chance, someLimits(chance))
		h := history{c: c, s: s, next: 1}
		for range 12 {
			if chance.IntN(4) > 0 {
				d.Arm(1+chance.IntN(10), chance.IntN(100))
			}
			w, e := flow.New(h.c, s, d)
			switch e {
			case api.OK:
				all := h.registries(t)
				count := slices.IndexFunc(all, func(b *book.Book) bool { return is(w, b) })
				if count < 0 {
					t.Fatalf("found are %v, next %d; behind %v, next %d, and of %v at least %d", w.Changes(), w.Next(), h.base, h.next, h.calls, max(h.answered, h.lasting))
				}
				if count > 0 {
					more++
				}
				h = history{c: c, s: s, base: all[count].Changes(), next: all[count].Next()}
				h.run(w, someDeeds(chance, c.Users)...)
				if w.Down() {
					inDeeds++
				}
			case api.ErrDown:
				inNew++
			default:
				t.Fatal(e)
			}
			d = d.Crash(choice(), choice())
		}
	}
	if inNew < 200 || inDeeds < 500 || more < 40 {
		t.Errorf("the power went %d times in New, %d times in other calls; %d times more was found than must be", inNew, inDeeds, more)
	}
}
