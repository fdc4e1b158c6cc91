package store_test

import (
	"math/rand/v2"
	"slices"
	"testing"

	"trommel/api"
	"trommel/disk"
	"trommel/key"
	"trommel/store"
)

func intList(part int, attr string, n, posts int) api.Opened {
	return api.Opened{Part: part, Key: api.Key{Attr: attr, Kind: api.KeyInt, Int: n}, Posts: posts}
}

func spanList(part int, attr string, level, index, posts int) api.Opened {
	return api.Opened{Part: part, Key: api.Key{Attr: attr, Kind: api.KeySpan, Level: level, Int: index}, Posts: posts}
}

func wordList(part int, attr, w string, posts int) api.Opened {
	return api.Opened{Part: part, Key: api.Key{Attr: attr, Kind: api.KeyWord, Word: w}, Posts: posts}
}

func prefixList(part int, attr, w string, posts int) api.Opened {
	return api.Opened{Part: part, Key: api.Key{Attr: attr, Kind: api.KeyPrefix, Word: w}, Posts: posts}
}

func zeroList(posts int) api.Opened {
	return api.Opened{Key: api.Key{Kind: api.KeyZero}, Posts: posts}
}

// opensJust holds what Opens answers to what is said too.
func (p *twin) opensJust(event []api.Pair, want ...api.Opened) {
	p.t.Helper()
	if got := p.opens(event); !slices.Equal(got, want) {
		p.t.Errorf("Opens(%v) = %v, not %v", event, got, want)
	}
}

// P20.1: no list, one, several, the list of those without a positive predicate: as the registry stands behind each change.
func TestOpens(t *testing.T) {
	p := opened(t, most)
	event := []api.Pair{word("c", "xy"), number("a", 5)}
	p.opensJust(nil)
	p.opensJust(event)
	p.do(sub(`a {5} & c "x"*`))
	p.opensJust(nil)
	p.opensJust(event, intList(2, "a", 5, 1), prefixList(2, "c", "x", 1))
	p.opensJust([]api.Pair{number("a", 5)}) // partition 2 isn't opened
	p.opensJust([]api.Pair{number("a", 5), number("b", 5)}, intList(2, "a", 5, 1))
	p.do(sub(`a [0, 7] & !c {"y"}`), sub("!a {5}"))
	p.opensJust(nil, zeroList(1))
	p.opensJust([]api.Pair{word("c", "y")}, zeroList(1), wordList(1, "c", "y", 1))
	p.opensJust(event, zeroList(1), intList(0, "a", 5, 1), spanList(1, "a", 3, 1<<28, 1), intList(2, "a", 5, 1), prefixList(2, "c", "x", 1))
	p.do(sub("!a {5} | !a {5, 6} & a [0, 7]"), sub(`a {5} & c {"xy"} & b {1}`), sub(`c "xy"* | c ""* | a [5, 3] | !(a [5, 3])`))
	p.opensJust(event, zeroList(3), intList(0, "a", 5, 2), intList(1, "a", 5, 1), spanList(1, "a", 3, 1<<28, 2), prefixList(1, "c", "", 1), prefixList(1, "c", "xy", 1), intList(2, "a", 5, 1), prefixList(2, "c", "x", 1))
	// What is dead isn't seen, ahead of Compact and behind it.
	p.do(unsub(4), replace(2, "b {9}"), replace(6, "a {5} & a {6}"), replace(1, `a {5} & c "x"*`))
	for range 2 {
		p.opensJust(nil, zeroList(1))
		p.opensJust(event, zeroList(1), intList(0, "a", 5, 1), intList(2, "a", 5, 1), prefixList(2, "c", "x", 1))
		p.opensJust([]api.Pair{number("b", 9)}, zeroList(1), intList(1, "b", 9, 1))
		p.compact(api.OK)
	}
	p.do(unsub(1), unsub(2), unsub(3), unsub(5), unsub(6))
	p.asks(fewEvents())
	p.opensJust(event)
}

// P20.1: the pairs may come in any order; what the schema refuses is ErrKind, and of a store that is down all is ErrDown.
func TestOpensRefuses(t *testing.T) {
	p := opened(t, most)
	p.do(sub("a {1} & b {2} | !a {3}"), sub(`c ""*`))
	event := []api.Pair{number("a", 1), number("b", 2), word("c", "x")}
	want := p.opens(event)
	if len(want) != 4 {
		t.Errorf("Opens = %v", want)
	}
	for _, order := range [][]int{{0, 2, 1}, {1, 0, 2}, {1, 2, 0}, {2, 0, 1}, {2, 1, 0}} {
		p.opensJust([]api.Pair{event[order[0]], event[order[1]], event[order[2]]}, want...)
	}
	for _, bad := range badEvents() {
		if got, e := p.x.Opens(bad); len(got) != 0 || e != api.ErrKind {
			t.Errorf("Opens(%v) = %v, %d", bad, got, e)
		}
		p.opens(bad)
	}
	p.arm(1, 0)
	p.do(unsub(1))
	for _, event := range append(badEvents(), nil, event) {
		if got, e := p.x.Opens(event); len(got) != 0 || e != api.ErrDown {
			t.Errorf("Opens(%v) = %v, %d", event, got, e)
		}
	}
}

// holdOpened holds the lists that are opened to P4 and P20.5.
func holdOpened(t *testing.T, event []api.Pair, lists []api.Opened) {
	t.Helper()
	keys := key.Event(event)
	for _, list := range lists {
		zero := list.Key == key.Zero() && list.Part == 0
		if !zero && !slices.Contains(keys, list.Key) || list.Part < 0 || list.Part > len(event) || list.Posts < 1 {
			t.Fatalf("%v opens %v", event, list)
		}
		p, named := api.Pair{}, list.Attr == ""
		for _, q := range event {
			if q.Name == list.Attr {
				p, named = q, true
			}
		}
		if !named || list.Kind == api.KeyInt && p.Int != list.Int || list.Kind == api.KeyWord && p.Word != list.Word {
			t.Fatalf("%v opens %v", event, list)
		}
		if list.Kind == api.KeySpan && (p.Int-api.Least)>>list.Level != list.Int {
			t.Fatalf("%v opens %v, which isn't on the path", event, list)
		}
		if list.Kind == api.KeyPrefix && (len(list.Word) > len(p.Word) || p.Word[:len(list.Word)] != list.Word) {
			t.Fatalf("%v opens %v, which is no beginning", event, list)
		}
	}
}

// P20.5, P4: every list that is opened is under a key that the event yields, or is the zero list; in no partition above the event's attributes.
func TestListsAreTheEvents(t *testing.T) {
	p := opened(t, most)
	for _, text := range texts() {
		p.do(sub(text))
	}
	for round := range 3 {
		lists := 0
		for _, event := range events() {
			got := p.opens(event)
			holdOpened(t, event, got)
			lists += len(got)
		}
		if lists < 500 {
			t.Errorf("only %d lists are opened", lists)
		}
		switch round {
		case 0:
			p.do(unsub(2), replace(1, `(a {1} | b [0, 9]) & !c "x"*`), replace(5, `c "x"* & a [-9, 9]`))
			p.compact(api.OK)
		case 1:
			p.opensWith(0, api.OK)
		}
	}
}

// P20.5, P4: by chance.
func TestListsByChance(t *testing.T) {
	chance := rand.New(rand.NewPCG(20, 5))
	for range 60 {
		p := opened(t, most)
		for range 20 {
			p.do(someCalls(chance, 3, 10)...)
			for range 4 {
				event := someEvent(chance)
				if lists, e := p.x.Opens(event); e == api.OK {
					holdOpened(t, event, lists)
				}
				p.opens(event)
			}
		}
	}
}

// P20.1: Compact writes just the registry, by three acts, with its next number.
func TestCompact(t *testing.T) {
	p := opened(t, most)
	compacted := func(next int, changes ...api.Change) {
		t.Helper()
		for range 2 {
			before := p.d.Acts()
			p.compact(api.OK)
			p.took(before, 3)
			p.has(journalOf(t, next, changes...))
		}
		p.asks(fewEvents())
	}
	compacted(1)
	p.do(sub("a {1}"), sub("!a {1}"), sub(`c "x"*`))
	compacted(4, subbed(1, "a {1}"), subbed(2, "!a {1}"), subbed(3, `c "x"*`))
	p.do(replace(1, " a {2}"), unsub(3))
	compacted(4, subbed(1, " a {2}"), subbed(2, "!a {1}"))
	p.do(replace(2, "a {1}"), replace(2, "a {3}"), replace(2, "!b {2}"))
	compacted(4, subbed(1, " a {2}"), subbed(2, "!b {2}"))
	p.do(unsub(1), unsub(2))
	compacted(4)
	p = p.crash(-1)
	p.opensWith(0, api.OK)
	p.answered(2, []api.Call{sub("a {1}")}, given(4))
}

// P20.1, P20.4: the power that goes at an act of Compact: its error, a store that is down, and the registry as it was.
func TestPowerInCompact(t *testing.T) {
	for n := 1; n <= 4; n++ {
		for part := range 60 {
			p := opened(t, most)
			p.do(sub("a {1}"), sub("!a {1}"), sub("b {1}"), replace(1, "a {2}"), unsub(3))
			p.arm(n, part)
			p.asks(fewEvents())
			before := p.d.Acts()
			if n == 4 {
				p.compact(api.OK)
				p.took(before, 3)
				continue
			}
			p.compact(api.ErrDown)
			p.took(before, n-1)
			p.isDown()
			for _, choices := range [][]int{nil, {-1}, {part}, {-1, -1}} {
				f := p.crash(choices...)
				f.open(api.OK)
				if text, ok := f.x.Text(1); text != "a {2}" || !ok || !slices.Equal(f.x.IDs(), []int{1, 2}) || f.x.Next() != 4 {
					t.Fatalf("found is %q, %v, %v, %d", text, ok, f.x.IDs(), f.x.Next())
				}
				f.answered(2, []api.Call{match(number("a", 2)), sub("a {2}")}, met(1, 2), given(4))
			}
		}
	}
}

// P20.2: Compact changes no answer: two stores, one of which is made small again and again, answer alike.
func TestCompactChangesNoAnswer(t *testing.T) {
	chance := rand.New(rand.NewPCG(20, 6))
	s := attributes(t)
	for range 60 {
		l := someLimits(chance)
		x, e := store.Open(l, s, disk.New())
		y, f := store.Open(l, s, disk.New())
		if e != api.OK || f != api.OK {
			t.Fatal(e, f)
		}
		for range 25 {
			calls := someCalls(chance, 3, 8)
			if got, want := y.Do(calls...), x.Do(calls...); !sameAnswers(got, want) {
				t.Fatalf("%v are answered %v, not %v", calls, got, want)
			}
			for range 1 + chance.IntN(2) {
				if e := y.Compact(); e != api.OK {
					t.Fatal(e)
				}
			}
			alike(t, x, y)
		}
	}
}

// alike holds that two stores that aren't down tell the same.
func alike(t *testing.T, x, y *store.Store) {
	t.Helper()
	if x.Subs() != y.Subs() || x.Total() != y.Total() || x.Next() != y.Next() || !slices.Equal(x.IDs(), y.IDs()) || x.Down() != y.Down() {
		t.Fatalf("%d, %d, %d, %v, %v and %d, %d, %d, %v, %v", x.Subs(), x.Total(), x.Next(), x.IDs(), x.Down(), y.Subs(), y.Total(), y.Next(), y.IDs(), y.Down())
	}
	for _, id := range append(x.IDs(), 0, 1, x.Next()) {
		a, ok := x.Text(id)
		if b, there := y.Text(id); a != b || ok != there {
			t.Fatalf("Text(%d) is %q, %v and %q, %v", id, a, ok, b, there)
		}
	}
	for _, event := range fewEvents() {
		a, e := x.Opens(event)
		if b, f := y.Opens(event); !slices.Equal(a, b) || e != f {
			t.Fatalf("Opens(%v) is %v, %d and %v, %d", event, a, e, b, f)
		}
		if a, b := x.Do(match(event...)), y.Do(match(event...)); !sameAnswers(a, b) {
			t.Fatalf("%v is answered %v and %v", event, a, b)
		}
	}
}
