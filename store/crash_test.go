package store_test

import (
	"fmt"
	"math/rand/v2"
	"slices"
	"testing"

	"trommel/api"
	"trommel/book"
	"trommel/disk"
	"trommel/schema"
	"trommel/store"
)

// deed is a Do, or a Compact.
type deed struct {
	calls   []api.Call
	compact bool
}

func doing(calls ...api.Call) deed { return deed{calls: calls} }

var compacting = deed{compact: true}

// history is what a row of deeds came to: a book to which all calls were made that were answered, and the changes of the Do that wasn't.
type history struct {
	l    api.Limits
	s    *schema.Schema
	base []api.Change // what makes that book, and
	next int          // its next number
	lost []api.Change
}

// registries are the books that may be found, by how many of the lost changes they have.
func (h *history) registries(t *testing.T) []*book.Book {
	t.Helper()
	var all []*book.Book
	for count := range len(h.lost) + 1 {
		b := book.New(h.l, h.s)
		if e := b.Apply(h.base...); e != api.OK {
			t.Fatal(e)
		}
		if e := b.Start(h.next); e != api.OK {
			t.Fatal(e)
		}
		if e := b.Apply(h.lost[:count]...); e != api.OK {
			t.Fatal(e)
		}
		all = append(all, b)
	}
	return all
}

// run does deeds on a store, up to the first that is answered ErrDown, and makes the same calls to the book.
func run(x *store.Store, b *book.Book, h *history, deeds ...deed) api.Errno {
	e := api.OK
	for _, one := range deeds {
		if one.compact {
			e = x.Compact()
		} else {
			got := x.Do(one.calls...)
			want := b.Do(one.calls...)
			if sameAnswers(got, want) {
				h.base, h.next = b.Changes(), b.Next()
			} else if sameAnswers(got, allDown(one.calls)) {
				h.lost = changed(one.calls, want)
				e = api.ErrDown
			} else {
				return -1
			}
		}
		if e != api.OK {
			return e
		}
	}
	return api.OK
}

// begin opens a store on a new disk whose power goes at an act, and does deeds.
func begin(l api.Limits, s *schema.Schema, d *disk.Disk, deeds ...deed) (history, api.Errno) {
	h := history{l: l, s: s, next: 1}
	x, e := store.Open(l, s, d)
	if e != api.OK {
		return h, e
	}
	e = run(x, book.New(l, s), &h, deeds...)
	return h, e
}

// is tells whether a store's registry is a book's.
func is(x *store.Store, b *book.Book) bool {
	if x.Subs() != b.Subs() || x.Total() != b.Total() || x.Next() != b.Next() || !slices.Equal(x.IDs(), b.IDs()) || x.Down() {
		return false
	}
	for _, id := range b.IDs() {
		text, _ := b.Text(id)
		if got, ok := x.Text(id); got != text || !ok {
			return false
		}
	}
	for _, event := range fewEvents() {
		if !sameAnswers(x.Do(match(event...)), b.Do(match(event...))) {
			return false
		}
	}
	return true
}

// opensAlike holds that the lists that a store opens are those of a book.
func opensAlike(t *testing.T, s *schema.Schema, x *store.Store, b *book.Book) {
	t.Helper()
	for _, event := range fewEvents() {
		pairs, e := s.Event(event...)
		if e != api.OK {
			continue
		}
		if got, e := x.Opens(event); !slices.Equal(got, listsOf(b, pairs)) || e != api.OK {
			t.Fatalf("Opens(%v) = %v, %d", event, got, e)
		}
	}
}

// later are calls by which it shows whether a registry goes on as another one.
func later() []api.Call {
	m := match(number("a", 1))
	return []api.Call{m, sub("a {1}"), m, replace(1, "!b {1}"), m, unsub(2), unsub(3), sub(wide(2)), replace(3, "a {1} & a {2}"), m, sub("a {1} & !a {2}"), match()}
}

// explorer goes through all that may be found, each once.
type explorer struct {
	t    *testing.T
	seen map[string]int
	most int         // how many losses of power one behind the other it has seen
	kept map[int]int // how often so many of the lost changes were found
}

// look opens the disk that is found behind a crash, whole and with the power
// going at each act of that Open, and then again what is found behind that.
func (x *explorer) look(crashed *disk.Disk, choices []int, h *history, losses int) {
	x.t.Helper()
	d := crashed.Crash(choices...)
	mark := fmt.Sprint(h.base, h.next, h.lost, filesOf(d))
	if x.seen[mark]++; x.seen[mark] > 1 {
		return
	}
	x.most = max(x.most, losses)
	x.finds(d, h)
	for n := 1; n <= 4; n++ {
		for _, part := range []int{-1, 0, 1, 6, 7, 19, 20, 30, 1000} {
			again := crashed.Crash(choices...)
			again.Arm(n, part)
			if _, e := store.Open(h.l, h.s, again); e == api.OK {
				return
			} else if e != api.ErrDown {
				x.t.Fatalf("Open = %d", e)
			}
			for _, next := range [][]int{nil, {-1}, {-1, -1}, {3, 3}} {
				x.look(again, next, h, losses+1)
			}
		}
	}
}

// finds holds that Open finds what may be found, that it lasts then, and that it goes on as the book would.
func (x *explorer) finds(d *disk.Disk, h *history) {
	x.t.Helper()
	found, e := store.Open(h.l, h.s, d)
	if e != api.OK {
		x.t.Fatalf("Open = %d", e)
	}
	all := h.registries(x.t)
	count := slices.IndexFunc(all, func(b *book.Book) bool { return is(found, b) })
	if count < 0 {
		x.t.Fatalf("found are %v, next %d; behind %v, next %d, and %v", found.IDs(), found.Next(), h.base, h.next, h.lost)
	}
	x.kept[count]++
	b := all[count]
	opensAlike(x.t, h.s, found, b)
	found, e = store.Open(h.l, h.s, d.Crash(5, 5))
	if e != api.OK || !is(found, b) {
		x.t.Fatalf("opened again, it is another registry: %d", e)
	}
	if got, want := found.Do(later()...), b.Do(later()...); !sameAnswers(got, want) || !is(found, b) {
		x.t.Fatalf("later calls are answered %v, not %v", got, want)
	}
}

// rows are deeds one behind the other.
func rows() [][]deed {
	m := match(number("a", 1))
	return [][]deed{
		{},
		{doing(sub("a {1}"), sub("b {2}"), m), doing(m, replace(1, "!a {1}")), doing(m), doing(unsub(2), sub("a {"), sub("a {3}"), unsub(1), unsub(1)), doing()},
		{doing(sub("a {1}"), sub("!a {1}"), unsub(1), sub("a {1}"), unsub(2)), compacting, doing(sub("a {2}"), replace(3, "a {9}"), unsub(4)), compacting},
		{compacting, doing(sub("a {1}")), doing(replace(1, "a {1} | b {1}"), replace(1, "!b {2}"), m), compacting, doing(unsub(1)), compacting, doing(sub("a {1}"), m)},
		// Near the limits: a change fits only behind the ones ahead of it.
		{doing(sub(wide(4)), sub("a {1}"), unsub(1), sub(wide(4)), replace(2, "b {1}"), sub("a {1}")), doing(unsub(2), replace(3, "a {1}"), sub(wide(4))), compacting, doing(replace(3, "a {2}"), unsub(4), sub(wide(3)))},
	}
}

var narrow = api.Limits{Depth: 3, Conj: 4, Subs: 2, Total: 5}

// P20.4, P7: the power goes at every act of rows of calls, with every number of bytes of an Append that is cut, with several choices; and again in the Open behind it, and so on.
func TestPowerGoesAtEveryAct(t *testing.T) {
	s := attributes(t)
	for i, row := range rows() {
		x := &explorer{t, map[string]int{}, 0, map[int]int{}}
		whole := disk.New()
		if _, e := begin(narrow, s, whole, row...); e != api.OK {
			t.Fatal(i, e)
		}
		for n := 1; n <= whole.Acts(); n++ {
			for part := range 150 {
				d := disk.New()
				d.Arm(n, part)
				h, e := begin(narrow, s, d, row...)
				if e != api.ErrDown || d.Acts() != n-1 {
					t.Fatalf("row %d, armed with %d: %d, %d acts", i, n, e, d.Acts())
				}
				for _, choices := range [][]int{nil, {-1}, {-1, -1}, {part / 2}, {part / 3, 2 * part / 3}, {part, part}, {0, part}, {13, 13}} {
					x.look(d, choices, &h, 1)
				}
			}
		}
		// It may also go between two acts.
		for count := range len(row) + 1 {
			d := disk.New()
			h, e := begin(narrow, s, d, row[:count]...)
			if e != api.OK {
				t.Fatal(e)
			}
			for _, choices := range [][]int{nil, {-1}, {7, 7}} {
				x.look(d, choices, &h, 1)
			}
		}
		if x.most < 3 {
			t.Errorf("row %d: only %d losses of power one behind the other", i, x.most)
		}
		if i == 1 && (x.kept[0] == 0 || x.kept[1] == 0 || x.kept[2] == 0 || x.kept[3] == 0) {
			t.Errorf("row %d: the lost changes that were found: %v", i, x.kept)
		}
	}
}

// P20.4: of the changes of a Do at whose Sync the power goes just those are found whose records are whole.
func TestFirstOnesAreFound(t *testing.T) {
	s := attributes(t)
	calls := []api.Call{sub("a {1}"), match(), replace(2, "!a {1} | b {2}"), sub("a {"), sub(`c "x"*`), unsub(2), unsub(2), sub("b {7}"), replace(1, "a {1}")}
	d := disk.New()
	h, e := begin(most, s, d, doing(sub("a {9}"), unsub(1)), compacting)
	if e != api.OK {
		t.Fatal(e)
	}
	x, e := store.Open(most, s, d)
	if e != api.OK {
		t.Fatal(e)
	}
	b := h.registries(t)[0]
	d.Arm(2, 0)
	if e := run(x, b, &h, doing(calls...)); e != api.ErrDown || len(h.lost) != 5 {
		t.Fatal(e, h.lost)
	}
	all := h.registries(t)
	for bytes := range len(journalOf(t, 1, h.lost...)) - len(journalOf(t, 1)) + 1 {
		want := 0
		for want < 5 && len(journalOf(t, 1, h.lost[:want+1]...))-len(journalOf(t, 1)) <= bytes {
			want++
		}
		f := d.Crash(bytes)
		y, e := store.Open(most, s, f)
		if e != api.OK || !is(y, all[want]) {
			t.Fatalf("with %d bytes: %v, next %d, %d; not that with %v", bytes, y.IDs(), y.Next(), e, h.lost[:want])
		}
		if got, e := f.Read("journal"); string(got) != string(journalOf(t, 2, h.lost[:want]...)) || e != api.OK {
			t.Fatalf("with %d bytes the journal has %q, %d", bytes, got, e)
		}
	}
}

// P20.3: opened again, of the same disk or of what a crash leaves of it, a store answers every later call as it would have.
func TestOpenedAgain(t *testing.T) {
	chance := rand.New(rand.NewPCG(20, 3))
	s := attributes(t)
	for round := range 120 {
		l := narrow
		switch round % 3 {
		case 1:
			l = someLimits(chance)
		case 2:
			l = most
		}
		var deeds []deed
		for range 20 {
			if chance.IntN(6) == 0 {
				deeds = append(deeds, compacting)
			} else {
				deeds = append(deeds, doing(someCalls(chance, 3, 8)...))
			}
		}
		d, f := disk.New(), disk.New()
		stays, e := store.Open(l, s, d)
		if e != api.OK {
			t.Fatal(e)
		}
		goes, e := store.Open(l, s, f)
		if e != api.OK {
			t.Fatal(e)
		}
		for _, one := range deeds {
			if one.compact {
				if a, b := stays.Compact(), goes.Compact(); a != api.OK || b != api.OK {
					t.Fatal(a, b)
				}
			} else if a, b := stays.Do(one.calls...), goes.Do(one.calls...); !sameAnswers(a, b) {
				t.Fatalf("%v are answered %v, not %v", one.calls, b, a)
			}
			alike(t, stays, goes)
			if chance.IntN(3) == 0 {
				f = f.Crash(chance.Int()-chance.Int(), chance.Int())
			}
			acts := f.Acts()
			if goes, e = store.Open(l, s, f); e != api.OK || f.Acts() != acts {
				t.Fatalf("Open = %d, with %d acts", e, f.Acts()-acts)
			}
			alike(t, stays, goes)
			if a, b := filesOf(d), filesOf(f); a != b {
				t.Fatalf("the disks are %s and %s", a, b)
			}
		}
	}
}

// P20.4, P7: by chance, through many losses of power, in Dos, in Compacts and in Opens; what was found is what lasts.
func TestManyLosses(t *testing.T) {
	chance := rand.New(rand.NewPCG(20, 4))
	s := attributes(t)
	inOpen, inDeeds, some := 0, 0, 0
	for range 500 {
		d := disk.New()
		h := history{l: someLimits(chance), s: s, next: 1}
		for range 12 {
			if chance.IntN(4) > 0 {
				d.Arm(1+chance.IntN(10), chance.IntN(200))
			}
			x, e := store.Open(h.l, s, d)
			switch e {
			case api.OK:
				all := h.registries(t)
				count := slices.IndexFunc(all, func(b *book.Book) bool { return is(x, b) })
				if count < 0 {
					t.Fatalf("found are %v, next %d; behind %v, next %d, and %v", x.IDs(), x.Next(), h.base, h.next, h.lost)
				}
				if count > 0 && count < len(h.lost) {
					some++
				}
				b := all[count]
				h = history{l: h.l, s: s, base: b.Changes(), next: b.Next()}
				switch run(x, b, &h, someDeeds(chance)...) {
				case api.ErrDown:
					inDeeds++
				case -1:
					t.Fatal("answered is neither what the book answers nor ErrDown")
				}
			case api.ErrDown:
				inOpen++
			default:
				t.Fatal(e)
			}
			d = d.Crash(chance.IntN(300), chance.IntN(300))
		}
	}
	if inOpen < 300 || inDeeds < 1000 || some < 50 {
		t.Errorf("the power went %d times in Open, %d times in other calls; %d times some of the changes were found", inOpen, inDeeds, some)
	}
}

func someDeeds(chance *rand.Rand) []deed {
	var deeds []deed
	for range chance.IntN(8) {
		if chance.IntN(5) == 0 {
			deeds = append(deeds, compacting)
		} else {
			deeds = append(deeds, doing(someCalls(chance, 2, 6)...))
		}
	}
	return deeds
}
