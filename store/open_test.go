package store_test

import (
	"math"
	"slices"
	"testing"

	"trommel/api"
	"trommel/book"
	"trommel/disk"
	"trommel/journal"
	"trommel/store"
)

// P20.1: without a disk, or with one that is off, there is no store.
func TestOpenWithoutPower(t *testing.T) {
	for _, l := range []api.Limits{{}, most, {Depth: -1, Conj: -1, Subs: -1, Total: -1}} {
		if x, e := store.Open(l, attributes(t), nil); x != nil || e != api.ErrForm {
			t.Errorf("Open = %v, %d", x, e)
		}
		if x, e := store.Open(l, nil, nil); x != nil || e != api.ErrForm {
			t.Errorf("Open = %v, %d", x, e)
		}
	}
	// It is off whatever stands on it: a whole journal, one without a head, one that doesn't fit.
	for _, b := range [][]byte{nil, []byte("H"), journalOf(t, 1), journalOf(t, 1, unsubbed(9)), journalOf(t, 1, subbed(1, "a {1}"))} {
		p := newTwin(t, most)
		p.lay("journal", b, true)
		p.crash()
		p.opensWith(0, api.ErrDown)
		p = newTwin(t, most)
		p.lay("journal", b, true)
		p.arm(1, 0)
		if p.d.Sync("journal") != api.ErrDown || p.wd.Sync("journal") != api.ErrDown {
			t.Fatal("the power should have gone")
		}
		p.opensWith(0, api.ErrDown)
	}
}

// P20.1: of a new disk it is the registry of nothing, written by three acts; opened again by none.
func TestOpenNewDisk(t *testing.T) {
	p := newTwin(t, most)
	p.opensWith(3, api.OK)
	p.has(journalOf(t, 1))
	x := p.x
	if text, ok := x.Text(1); x.Subs() != 0 || x.Total() != 0 || x.Next() != 1 || len(x.IDs()) != 0 || text != "" || ok || x.Down() {
		t.Errorf("there is %d, %d, %d, %v, %q, %v", x.Subs(), x.Total(), x.Next(), x.IDs(), text, x.Down())
	}
	p.asks(events())
	p.opensWith(0, api.OK)
	p.answered(2, []api.Call{sub("a {1}")}, given(1))
}

// P20.1: where the power goes at one of those acts there is no store, and the disk is opened as a new one.
func TestOpenLosesPower(t *testing.T) {
	for n := 1; n <= 4; n++ {
		for part := range 8 {
			p := newTwin(t, most)
			p.arm(n, part)
			if n == 4 {
				p.opensWith(3, api.OK)
				continue
			}
			p.opensWith(n-1, api.ErrDown)
			for _, choices := range [][]int{nil, {-1}, {3}, {-1, -1}} {
				f := p.crash(choices...)
				f.open(api.OK)
				f.has(journalOf(t, 1))
				f.answered(2, []api.Call{match(), sub("a {1}")}, met(), given(1))
			}
		}
	}
}

// P20.1: a journal without its head is refused; what a writing anew has left beside it goes ahead of that.
func TestOpenWithoutHead(t *testing.T) {
	whole := journalOf(t, 300, subbed(1, "a {1}"))
	bad := [][]byte{nil, {0}, []byte("H"), whole[:1], whole[:6], whole[7:], []byte("Hello, world"), append([]byte{0}, whole...)}
	for _, b := range bad {
		p := newTwin(t, most)
		p.lay("journal", b, true)
		p.opensWith(0, api.ErrHead)
		p.opensWith(0, api.ErrHead)
		p.lay("fresh", whole, true)
		p.opensWith(1, api.ErrHead)
		// The power that goes at that act is told ahead of the head.
		p.lay("fresh", whole, true)
		p.arm(1, 0)
		p.opensWith(0, api.ErrDown)
		f := p.crash(-1, -1)
		f.opensWith(1, api.ErrHead)
	}
}

// misfit is a journal whose changes don't fit a book.
type misfit struct {
	name    string
	limits  api.Limits
	changes []api.Change
	want    api.Errno
}

func misfits() []misfit {
	small := api.Limits{Depth: 3, Conj: 4, Subs: 2, Total: 5}
	one := subbed(1, "a {1}")
	return []misfit{
		{"a text of no expression", most, []api.Change{subbed(1, "a {")}, api.ErrSyntax},
		{"no text", most, []api.Change{subbed(1, "")}, api.ErrSyntax},
		{"a Replace by no expression, of nothing", most, []api.Change{replaced(1, "a")}, api.ErrSyntax},
		{"too deep", small, []api.Change{one, subbed(2, deep(4))}, api.ErrTooDeep},
		{"too deep and of another kind", small, []api.Change{one, subbed(2, "!!!c {1}")}, api.ErrTooDeep},
		{"of another kind", most, []api.Change{one, subbed(2, "c {1}")}, api.ErrKind},
		{"of no attribute", most, []api.Change{one, replaced(1, "z {1}")}, api.ErrKind},
		{"too wide", small, []api.Change{subbed(1, wide(5))}, api.ErrTooWide},
		{"a Replace too wide, of nothing", small, []api.Change{replaced(1, wide(5))}, api.ErrTooWide},
		{"a Replace of nothing", most, []api.Change{one, replaced(2, "a {1}")}, api.ErrNoSub},
		{"an Unsub of nothing", most, []api.Change{unsubbed(1)}, api.ErrNoSub},
		{"an Unsub twice", most, []api.Change{one, unsubbed(1), unsubbed(1)}, api.ErrNoSub},
		{"too many", small, []api.Change{one, subbed(2, "a {1}"), subbed(3, "a {1}")}, api.ErrTooMany},
		{"too wide together", small, []api.Change{subbed(1, wide(3)), subbed(2, wide(3))}, api.ErrTooMany},
		{"a Replace too wide together", small, []api.Change{subbed(1, wide(3)), subbed(2, "a {1}"), replaced(2, wide(3))}, api.ErrTooMany},
		{"none allowed", api.Limits{Depth: 9, Conj: 9, Total: 9}, []api.Change{one}, api.ErrTooMany},
		{"no width allowed", api.Limits{Depth: 9, Conj: 9, Subs: 9}, []api.Change{one}, api.ErrTooMany},
		{"a number twice", most, []api.Change{one, one}, api.ErrForm},
		{"a number twice, once gone", most, []api.Change{one, unsubbed(1), one}, api.ErrForm},
		{"a number that falls", most, []api.Change{subbed(5, "a {1}"), subbed(4, "a {1}")}, api.ErrForm},
		{"a number that falls, with no expression", most, []api.Change{subbed(5, "a {1}"), subbed(4, "a {")}, api.ErrForm},
		{"two faults, the first one", most, []api.Change{one, unsubbed(2), subbed(1, "a")}, api.ErrNoSub},
		{"two faults, the other one first", most, []api.Change{one, subbed(1, "a"), unsubbed(2)}, api.ErrForm},
		{"a fault that a later change would mend", small, []api.Change{subbed(1, wide(4)), subbed(2, wide(2)), unsubbed(1)}, api.ErrTooMany},
	}
}

// P20.1: changes that don't fit a book under these limits and this schema are refused as the book refuses them; the disk stays as it is.
func TestOpenMisfits(t *testing.T) {
	for _, m := range misfits() {
		for _, next := range []int{1, 9, api.MaxID + 1} {
			p := laid(t, m.limits, next, m.changes...)
			p.opensWith(0, m.want)
			p.opensWith(0, m.want)
			p.has(journalOf(t, next, m.changes...))
			// What stands torn behind them is cut ahead of that.
			p.lay("journal", []byte{0x43, 7, 1}, true)
			p.opensWith(3, m.want)
			p.has(journalOf(t, next, m.changes...))
			p.lay("journal", []byte{0x43, 7, 1}, true)
			p.arm(2, 0)
			p.opensWith(1, api.ErrDown)
			f := p.crash(-1, -1)
			f.opensWith(4, m.want)
			f.has(journalOf(t, next, m.changes...))
		}
	}
}

// P20.1: what one schema and one set of limits refuse another may take, with nothing lost between.
func TestOpenFitsOther(t *testing.T) {
	p := opened(t, most)
	p.do(sub(wide(6)), sub(deep(7)), sub(`c "x"*`), unsub(2))
	own := p.s
	p.limits.Conj = 5
	p.opensWith(0, api.ErrTooWide)
	p.limits = most
	p.limits.Depth = 6
	p.opensWith(0, api.ErrTooDeep)
	p.limits = most
	p.limits.Total = 7
	p.opensWith(0, api.ErrTooMany)
	p.limits = most
	p.limits.Subs = 2
	// The Unsub is behind the Sub for which there is no room.
	p.opensWith(0, api.ErrTooMany)
	p.limits = most
	p.s = schemaOf(t, api.Attr{Name: "a", Kind: api.KindInt}, api.Attr{Name: "b", Kind: api.KindInt}, api.Attr{Name: "c", Kind: api.KindInt})
	p.opensWith(0, api.ErrKind)
	p.s = schemaOf(t)
	p.opensWith(0, api.ErrKind)
	p.s = own
	p.limits = api.Limits{Depth: 7, Conj: 6, Subs: 3, Total: 8}
	p.opensWith(0, api.OK)
	p.compact(api.OK)
	p.limits = api.Limits{Depth: 2, Conj: 6, Subs: 2, Total: 7}
	p.opensWith(0, api.OK)
	p.answered(0, []api.Call{sub("a {1}"), match(word("c", "x"))}, code(api.ErrTooMany), met(3))
}

// P20.1: no next number that a journal tells is refused by Start: it is never below the last Sub's and one more, nor above MaxID + 1.
func TestOpenNextNumber(t *testing.T) {
	for _, next := range []int{1, 2, 5, 6, 127, 128, api.MaxID - 1, api.MaxID, api.MaxID + 1} {
		p := laid(t, most, next, subbed(5, "a {1}"))
		p.opensWith(0, api.OK)
		want := max(next, 6)
		if p.x.Next() != want {
			t.Errorf("Next = %d, not %d", p.x.Next(), want)
		}
		if want > api.MaxID {
			p.answered(0, []api.Call{sub("a {1}"), sub("a {")}, code(api.ErrTooMany), code(api.ErrSyntax))
		} else {
			p.answered(2, []api.Call{sub("a {1}")}, given(want))
		}
	}
	p := laid(t, most, 1, subbed(api.MaxID-1, "a {1}"), unsubbed(api.MaxID-1))
	p.open(api.OK)
	p.answered(2, []api.Call{sub("a {1}"), sub("a {1}"), match(number("a", 1))}, given(api.MaxID), code(api.ErrTooMany), met(api.MaxID))
	p.compact(api.OK)
	p.answered(2, []api.Call{sub("a {1}"), unsub(api.MaxID), sub("a {1}")}, code(api.ErrTooMany), done, code(api.ErrTooMany))
	p.compact(api.OK)
	p.has(journalOf(t, api.MaxID+1))
	p = p.crash()
	p.opensWith(0, api.OK)
	p.answered(0, []api.Call{sub("a {1}")}, code(api.ErrTooMany))
}

// P20.1: the limits are those that Clamp makes of them.
func TestOpenClampsLimits(t *testing.T) {
	edges := []int{math.MinInt, -1, 0, 1, 2, 3, math.MaxInt}
	for _, depth := range edges {
		for _, conj := range edges {
			for _, subs := range edges {
				for _, total := range edges {
					p := opened(t, api.Limits{Depth: depth, Conj: conj, Subs: subs, Total: total})
					p.do(sub("a {1}"), sub("!a {1}"), sub(wide(2)), sub("a {1} & (b {1} | !b {2})"), replace(1, wide(3)), sub("a {2}"))
				}
			}
		}
	}
	p := opened(t, api.Limits{})
	p.answered(0, []api.Call{sub("a {1}"), sub("!a {1}"), sub("a {1} | a {2}")}, code(api.ErrTooMany), code(api.ErrTooDeep), code(api.ErrTooDeep))
	p = opened(t, api.Limits{Depth: math.MaxInt, Conj: math.MaxInt, Subs: math.MaxInt, Total: math.MaxInt})
	p.answered(2, []api.Call{sub(deep(api.MaxDepth)), sub(deep(api.MaxDepth + 1)), sub(wide(api.MaxConj)), sub(wide(api.MaxConj + 1))}, given(1), code(api.ErrTooDeep), given(2), code(api.ErrTooWide))
	if got, want := book.Clamp(p.limits), most; got != want {
		t.Errorf("Clamp = %v, not %v", got, want)
	}
}

// P20.1: full to the limits of all registries, and no more.
func TestOpenFull(t *testing.T) {
	d := disk.New()
	x, e := store.Open(most, attributes(t), d)
	if e != api.OK {
		t.Fatal(e)
	}
	calls := slices.Repeat([]api.Call{sub(wide(4))}, api.MaxSubs)
	got := x.Do(append(calls, sub("a {1}"), replace(1, wide(5)), replace(1, wide(3)), replace(2, wide(5)))...)
	if d.Acts() != 5 || got[api.MaxSubs-1].ID != api.MaxSubs || !sameAnswers(got[api.MaxSubs:], []api.Answer{code(api.ErrTooMany), code(api.ErrTooMany), done, done}) {
		t.Errorf("%d acts; answered is %v", d.Acts(), got[api.MaxSubs-1:])
	}
	for range 2 {
		if x.Subs() != api.MaxSubs || x.Total() != api.MaxTotal || x.Next() != api.MaxSubs+1 || len(x.IDs()) != api.MaxSubs {
			t.Errorf("Subs %d, Total %d, Next %d", x.Subs(), x.Total(), x.Next())
		}
		if got := x.Do(match(number("b", 1)), match(number("a", 1)), match()); len(got[0].IDs) != api.MaxSubs || len(got[1].IDs) != api.MaxSubs || len(got[2].IDs) != 0 {
			t.Errorf("met are %d, %d, %d", len(got[0].IDs), len(got[1].IDs), len(got[2].IDs))
		}
		// wide names a's 1 in all but the last conjunction.
		if got, e := x.Opens([]api.Pair{number("a", 1), number("b", 1)}); e != api.OK || len(got) != 2 || got[0].Posts+got[1].Posts != api.MaxTotal || got[1].Posts != api.MaxSubs {
			t.Errorf("Opens = %v, %d", got, e)
		}
		if x, e = store.Open(most, attributes(t), d); e != api.OK {
			t.Fatal(e)
		}
	}
}

// P20.1: what a crash tore, what it left beside, and what is loose still is mended, as the journal does it.
func TestOpenTorn(t *testing.T) {
	row := []api.Change{subbed(1, "a {1}"), subbed(2, `c "x"*`), replaced(1, "!a {2} | b {3}"), unsubbed(2), subbed(7, "a [0, 9]")}
	whole := journalOf(t, 4, row...)
	head := len(journalOf(t, 4))
	for length := range len(whole) + 1 {
		for _, lasting := range []bool{true, false} {
			p := newTwin(t, most)
			p.lay("journal", whole[:length], lasting)
			if length < head {
				p.open(api.ErrHead)
				continue
			}
			p.open(api.OK)
			p.asks(fewEvents())
			p.opensWith(0, api.OK)
			p.lay("fresh", whole[:length], lasting)
			p.opensWith(1, api.OK)
			p.do(sub("a {1}"), unsub(1))
			p = p.crash(-1, -1)
			p.opensWith(0, api.OK)
			p.asks(fewEvents())
		}
	}
}

// P20.1, rule 6: two stores have nothing to do with one another.
func TestStoresAreApart(t *testing.T) {
	p, q := opened(t, most), opened(t, api.Limits{Depth: 1, Conj: 1, Subs: 1, Total: 1})
	p.answered(2, []api.Call{sub("a {1}"), sub("!a {1}")}, given(1), given(2))
	q.answered(2, []api.Call{sub("a {2}"), sub("a {2}")}, given(1), code(api.ErrTooMany))
	q.arm(1, 0)
	q.answered(0, []api.Call{unsub(1)}, code(api.ErrDown))
	p.answered(2, []api.Call{unsub(1), match(number("a", 2))}, done, met(2))
	q.isDown()
	p.hold()
}

// P20.1: the journal that a store writes is one that layer 19 opens, with just its changes.
func TestJournalHasTheChanges(t *testing.T) {
	p := opened(t, most)
	p.do(sub("a {1}"), sub("a {"), replace(1, " a {2}"), match(), api.Call{Change: api.Change{Kind: api.Unsub, ID: 1, Text: "x"}, Event: []api.Pair{number("a", 1)}}, unsub(1), api.Call{Change: subbed(99, "b {1}")})
	_, next, changes, e := journal.Open(p.d)
	want := []api.Change{subbed(1, "a {1}"), replaced(1, " a {2}"), unsubbed(1), subbed(2, "b {1}")}
	if next != 3 || !slices.Equal(changes, want) || e != api.OK {
		t.Errorf("the journal has %d, %v, %d, not %v", next, changes, e, want)
	}
	p.has(journalOf(t, 1, want...))
}
