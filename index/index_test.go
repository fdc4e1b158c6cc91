package index_test

import (
	"math"
	"math/rand/v2"
	"slices"
	"testing"

	"trommel/api"
	"trommel/index"
)

// example is an index with two subscriptions, one of them with two conjunctions.
func example(t *testing.T) *pair {
	t.Helper()
	p := newPair(t)
	p.put(7, made(t, `a {1} | a [0, 7] & !c {"y"}`)...)
	p.put(3, made(t, "!a {1}")...)
	return p
}

// P15.1: the chapter's examples.
func TestExamples(t *testing.T) {
	x := index.New()
	c := slices.Concat(made(t, "a {1}"), made(t, `a [0, 7] & c "x"*`), made(t, "!a {1}"), made(t, "a {2}"))
	if x.Put(7, c[0], c[1]) != api.OK || !slices.Equal(x.Numbers(7), []int{1, 2}) || x.Put(3, c[2]) != api.OK || !slices.Equal(x.Numbers(3), []int{3}) {
		t.Errorf("Numbers %v, %v", x.Numbers(7), x.Numbers(3))
	}
	if x.Put(7, c[3]) != api.OK || !slices.Equal(x.Numbers(7), []int{4}) || x.Owner(1) != 0 || x.Owner(4) != 7 {
		t.Errorf("Numbers %v, Owner %d, %d", x.Numbers(7), x.Owner(1), x.Owner(4))
	}
	if got := x.Compact(); got != 2 {
		t.Errorf("Compact = %d", got)
	}
	if got := x.Drop(7, 7, 9); got != 1 {
		t.Errorf("Drop = %d", got)
	}
	if x.Put(5) != api.OK || !slices.Equal(x.IDs(), []int{3, 5}) || len(x.Numbers(5)) != 0 {
		t.Errorf("IDs %v", x.IDs())
	}
	for _, event := range events() {
		if slices.Contains(x.Match(event), 5) {
			t.Errorf("%v meets a subscription with no conjunctions", event)
		}
	}
	if got := index.Union([]int{3, 1}, []int{2, 3}); !slices.Equal(got, []int{1, 2, 3}) {
		t.Errorf("Union = %v", got)
	}
}

// P15.1: what an index of nothing tells.
func TestEmpty(t *testing.T) {
	p := newPair(t)
	for range 2 {
		p.hold(events()...)
		if p.x.Subs() != 0 || p.x.Conjs() != 0 || len(p.x.IDs()) != 0 || p.x.Drop() != 0 || p.x.Drop(1, 0, -1, math.MaxInt, math.MinInt) != 0 || p.x.Compact() != 0 {
			t.Error("nothing was put in")
		}
		for _, event := range events() {
			if trace := p.x.Trace(event); len(p.x.Match(event)) != 0 || len(trace.Lists) != 0 || len(trace.Judged) != 0 {
				t.Errorf("Match(%v) = %v, Trace %v", event, p.x.Match(event), trace)
			}
		}
	}
}

// P15.1, rule 4: numbers below 1 are refused, ahead of what else is wrong; nothing changes, and no number is given.
func TestNumbersOutOfRange(t *testing.T) {
	p := example(t)
	for _, id := range []int{0, -1, -7, math.MinInt, math.MinInt32, -1 << 40} {
		for _, c := range append(badConjs(), always, never) {
			if got := p.put(id, c); got != api.ErrRange {
				t.Errorf("Put(%d, %v) = %d", id, c, got)
			}
		}
		if p.put(id) != api.ErrRange || p.put(id, made(t, "a {1} | a {2}")...) != api.ErrRange || p.drop(id) != 0 || len(p.x.Numbers(id)) != 0 {
			t.Errorf("%d is a subscription's number", id)
		}
	}
	p.hold(events()...)
	if p.compact() != 0 {
		t.Error("what was refused has left something dead")
	}
	p.put(1, always)
	if got := p.x.Numbers(1); !slices.Equal(got, []int{4}) {
		t.Errorf("Numbers = %v", got)
	}
}

// P15.1: the least number, and the greatest there are; a subscription's number isn't a conjunction's.
func TestGreatNumbers(t *testing.T) {
	p := newPair(t)
	for i, id := range []int{math.MaxInt, 1, math.MaxInt - 1, api.MaxID, 2, api.MaxID + 1, 1 << 62, math.MaxInt32, math.MaxInt32 + 1, math.MaxUint32 + 1, math.MaxUint32 + 2} {
		if got := p.put(id, made(t, []string{"a {1}", `a {1, 5} | c "x"*`, "!a {1} | a {1}", "a {5} & !c {\"y\"}"}[i%4])...); got != api.OK {
			t.Errorf("Put(%d) = %d", id, got)
		}
		p.hold(events()...)
	}
	if p.x.Owner(1) != math.MaxInt || p.x.Owner(2) != 1 || !slices.IsSorted(p.x.IDs()) || p.x.IDs()[10] != math.MaxInt {
		t.Errorf("Owner %d, %d; IDs %v", p.x.Owner(1), p.x.Owner(2), p.x.IDs())
	}
	p.drop(math.MaxInt, api.MaxID)
	p.put(math.MaxInt-1, made(t, "c {\"x\"}")...)
	p.hold(events()...)
	p.compact()
	p.put(math.MaxInt, always)
	p.hold(events()...)
}

// P15.1, rule 4: one conjunction that isn't normal, wherever it stands, and nothing changes, and no number is given.
func TestNotNormal(t *testing.T) {
	p := example(t)
	good := made(t, `a {2} | c "x"*`)
	for _, bad := range badConjs() {
		for _, conjs := range [][]api.Conj{{bad}, {bad, good[0]}, {good[0], bad}, {good[0], bad, good[1]}, {good[0], good[1], bad}, {never, bad}, {bad, always}, {bad, bad}} {
			for _, id := range []int{7, 3, 1, 9, math.MaxInt} {
				if got := p.put(id, conjs...); got != api.ErrForm {
					t.Errorf("Put(%d, %v) = %d", id, conjs, got)
				}
			}
		}
		holdSubs(t, p.x, p.s)
	}
	p.hold(events()...)
	if p.compact() != 0 || p.x.Subs() != 2 || p.x.Conjs() != 3 {
		t.Errorf("Subs %d, Conjs %d", p.x.Subs(), p.x.Conjs())
	}
	if p.put(7, good...) != api.OK || !slices.Equal(p.x.Numbers(7), []int{4, 5}) {
		t.Errorf("Numbers = %v", p.x.Numbers(7))
	}
	p.hold(events()...)
}

// P15.1: Put with no conjunctions is a subscription that nothing meets; one that is there loses what it had.
func TestNoConjunctions(t *testing.T) {
	p := example(t)
	if p.put(5) != api.OK || p.put(7, []api.Conj{}...) != api.OK || p.x.Subs() != 3 || p.x.Conjs() != 1 || !slices.Equal(p.x.IDs(), []int{3, 5, 7}) {
		t.Errorf("Subs %d, Conjs %d, IDs %v", p.x.Subs(), p.x.Conjs(), p.x.IDs())
	}
	p.hold(events()...)
	for _, event := range events() {
		if got := p.x.Match(event); slices.Contains(got, 5) || slices.Contains(got, 7) {
			t.Errorf("Match(%v) = %v", event, got)
		}
	}
	if p.compact() != 2 || p.put(5) != api.OK || p.compact() != 0 || p.x.Subs() != 3 {
		t.Errorf("Subs %d", p.x.Subs())
	}
	p.put(5, always)
	if !slices.Equal(p.x.Numbers(5), []int{4}) || p.drop(7, 7) != 1 || p.compact() != 0 {
		t.Errorf("Numbers %v", p.x.Numbers(5))
	}
	p.hold(events()...)
}

// P15.1: one that is Never has a number as any other, and nothing meets it.
func TestNever(t *testing.T) {
	p := newPair(t)
	p.put(4, never)
	p.put(6, never, made(t, "a {1}")[0], api.Conj{Never: true, Pos: []api.Pred{}, Neg: []api.Pred{}})
	p.put(8, made(t, "a {1} & a {2}")...)
	if !slices.Equal(p.x.Numbers(6), []int{2, 3, 4}) || p.x.Owner(1) != 4 || p.x.Owner(5) != 8 || p.x.Conjs() != 5 {
		t.Errorf("Numbers %v, Conjs %d", p.x.Numbers(6), p.x.Conjs())
	}
	for _, event := range events() {
		if got := p.x.Match(event); slices.Contains(got, 4) || slices.Contains(got, 8) {
			t.Errorf("Match(%v) = %v", event, got)
		}
	}
	p.hold(events()...)
	p.put(6, never)
	p.drop(4)
	if p.compact() != 4 {
		t.Error("one that was Never isn't dead as any other")
	}
	p.hold(events()...)
}

// P15.1: the same conjunction twice in one Put, and in several, has a number for each time.
func TestSameTwice(t *testing.T) {
	p := newPair(t)
	one := made(t, "a {1}")[0]
	p.put(4, one, one, always, one)
	p.put(2, one)
	if !slices.Equal(p.x.Numbers(4), []int{1, 2, 3, 4}) || !slices.Equal(p.x.Numbers(2), []int{5}) || p.x.Conjs() != 5 {
		t.Errorf("Numbers %v, %v", p.x.Numbers(4), p.x.Numbers(2))
	}
	event := []api.Pair{number("a", 1)}
	if got := p.x.Match(event); !slices.Equal(got, []int{2, 4}) || !slices.Equal(p.x.Trace(event).Judged, []int{1, 2, 3, 4, 5}) {
		t.Errorf("Match = %v", got)
	}
	p.hold(events()...)
	p.put(4, one)
	p.hold(events()...)
	if p.compact() != 4 {
		t.Error("not all are dead")
	}
	p.hold(events()...)
}

// P15.1: Put of a number that is there, again and again, and behind Drop and Compact: the numbers go on.
func TestPutAgain(t *testing.T) {
	p := newPair(t)
	given := 0
	for round := range 12 {
		text := []string{"a {1} | a {2}", "!a {1}", `c "x"* | a {5} | a {1}`, "a {2}"}[round%4]
		conjs := made(t, text)
		p.put(9, conjs...)
		var want []int
		for range conjs {
			given++
			want = append(want, given)
		}
		if got := p.x.Numbers(9); !slices.Equal(got, want) || p.x.Subs() != 1 || p.x.Conjs() != len(conjs) {
			t.Errorf("Numbers = %v, not %v", got, want)
		}
		p.hold(events()...)
		switch round % 5 {
		case 1:
			p.compact()
		case 2:
			p.drop(9)
		case 3:
			p.drop(9)
			p.compact()
		}
		p.hold(events()...)
	}
}

// P15.1: no number is given twice, whatever was replaced, dropped or compacted.
func TestNumbersNeverTwice(t *testing.T) {
	chance := rand.New(rand.NewPCG(15, 1))
	p := newPair(t)
	last := 0
	for range 400 {
		switch chance.IntN(6) {
		case 0:
			p.drop(1+chance.IntN(9), 1+chance.IntN(9))
		case 1:
			p.compact()
		case 2:
			p.put(1+chance.IntN(9), never, badConjs()[0])
		default:
			id := 1 + chance.IntN(9)
			p.put(id, someConjs(t, chance, "a", "c")...)
			for _, number := range p.x.Numbers(id) {
				if number != last+1 {
					t.Fatalf("the number behind %d is %d", last, number)
				}
				last = number
			}
		}
	}
	if last < 200 {
		t.Errorf("only %d numbers: too few to tell much", last)
	}
}

// P15.1: Drop of numbers that aren't there, that were dropped, that are told twice; those of conjunctions are none.
func TestDrop(t *testing.T) {
	p := example(t)
	p.put(2)
	for _, c := range []struct {
		ids  []int
		want int
		left []int
	}{
		{nil, 0, []int{2, 3, 7}}, {[]int{}, 0, []int{2, 3, 7}}, {[]int{1, 4, 0, -7, math.MaxInt, math.MinInt}, 0, []int{2, 3, 7}}, {[]int{7, 7, 9, 7}, 1, []int{2, 3}}, {[]int{7}, 0, []int{2, 3}}, {[]int{9, 2, 3, 2, 3}, 2, nil}, {[]int{2, 3, 7}, 0, nil},
	} {
		if got := p.drop(c.ids...); got != c.want || !slices.Equal(p.x.IDs(), c.left) || p.x.Subs() != len(c.left) {
			t.Errorf("Drop(%v) = %d, IDs %v", c.ids, got, p.x.IDs())
		}
		p.hold(events()...)
	}
	if p.x.Conjs() != 0 || p.compact() != 3 || p.compact() != 0 {
		t.Error("what was dropped isn't dead")
	}
	p.put(7, made(t, "a {1}")...)
	if !slices.Equal(p.x.Numbers(7), []int{4}) {
		t.Errorf("Numbers = %v", p.x.Numbers(7))
	}
	p.hold(events()...)
}

// P15.1: whose a conjunction is: of no number that is none's, not given yet, or gone.
func TestOwner(t *testing.T) {
	p := example(t)
	hold := func(want ...int) {
		t.Helper()
		for number, id := range want {
			if got := p.x.Owner(number); got != id {
				t.Errorf("Owner(%d) = %d, not %d", number, got, id)
			}
		}
		for _, number := range []int{-1, -2, -7, math.MinInt, len(want), len(want) + 1, 1 << 32, math.MaxInt} {
			if got := p.x.Owner(number); got != 0 {
				t.Errorf("Owner(%d) = %d", number, got)
			}
		}
	}
	hold(0, 7, 7, 3)
	p.put(3, always, never)
	hold(0, 7, 7, 0, 3, 3)
	p.compact()
	hold(0, 7, 7, 0, 3, 3)
	p.drop(7)
	hold(0, 0, 0, 0, 3, 3)
	p.put(7, always)
	hold(0, 0, 0, 0, 3, 3, 7)
	p.put(3)
	hold(0, 0, 0, 0, 0, 0, 7)
	p.compact()
	hold(0, 0, 0, 0, 0, 0, 7)
}

// told is all that an index tells, but what Compact answers.
func told(x *index.Index) (subs []int, traces []api.Trace) {
	subs = append([]int{x.Subs(), x.Conjs()}, x.IDs()...)
	for id := range 10 {
		subs = append(append(subs, -1), x.Numbers(id)...)
	}
	for number := range 20 {
		subs = append(subs, x.Owner(number))
	}
	for _, event := range events() {
		subs = append(append(subs, -1), x.Match(event)...)
		traces = append(traces, x.Trace(event))
	}
	return subs, traces
}

// P15.1, P15.4: Compact with nothing dead, with some, with all, and twice: no other answer changes, nor a later one.
func TestCompact(t *testing.T) {
	p, other := example(t), example(t)
	if p.compact() != 0 {
		t.Error("nothing was dead")
	}
	for _, step := range []struct {
		do   func(p *pair)
		dead int
	}{
		{func(p *pair) { p.put(7, made(t, "a {2}")...) }, 2}, {func(p *pair) { p.put(5, never) }, 0}, {func(p *pair) { p.put(5, always, never) }, 1}, {func(p *pair) { p.drop(3, 9) }, 1}, {func(p *pair) { p.put(3) }, 0}, {func(p *pair) { p.put(3, made(t, "a {5} | c \"x\"*")...) }, 0},
		{func(p *pair) { p.put(3); p.put(5); p.drop(7) }, 5}, {func(p *pair) { p.drop(3, 5) }, 0}, {func(p *pair) { p.put(1, made(t, "a [0, 5] & !a {2}")...) }, 0}, {func(p *pair) { p.drop(1) }, 1},
	} {
		step.do(p)
		step.do(other)
		subs, traces := told(p.x)
		if got := p.compact(); got != step.dead {
			t.Errorf("Compact = %d, not %d", got, step.dead)
		}
		if p.compact() != 0 {
			t.Error("Compact takes something out twice")
		}
		after, looked := told(p.x)
		if !slices.Equal(subs, after) || !slices.EqualFunc(traces, looked, sameTrace) {
			t.Errorf("Compact changes what is told: %v, %v", subs, after)
		}
		without, seen := told(other.x)
		if !slices.Equal(without, after) || !slices.EqualFunc(seen, looked, sameTrace) {
			t.Errorf("Compact ahead of it changes what a call does: %v, %v", without, after)
		}
		p.hold(events()...)
	}
	if got := other.compact(); got != 10 {
		t.Errorf("Compact of all = %d", got)
	}
}

// P15.1: Union of any lists.
func TestUnion(t *testing.T) {
	for _, c := range []struct {
		lists [][]int
		want  []int
	}{
		{nil, nil}, {[][]int{}, nil}, {[][]int{nil}, nil}, {[][]int{{}, nil, {}}, nil}, {[][]int{{5}}, []int{5}}, {[][]int{{1, 2, 3}}, []int{1, 2, 3}}, {[][]int{{3, 2, 1}}, []int{1, 2, 3}}, {[][]int{{3, 1}, {2, 3}}, []int{1, 2, 3}},
		{[][]int{{2, 2, 2}}, []int{2}}, {[][]int{{2, 1, 2, 1}, {}, {1, 3, 1}}, []int{1, 2, 3}}, {[][]int{{1}, {1}, {1}}, []int{1}}, {[][]int{{9, 8}, nil, {7}, {8, 10}}, []int{7, 8, 9, 10}}, {[][]int{{1, 3}, {2, 4}, {0, 5}}, []int{0, 1, 2, 3, 4, 5}},
		{[][]int{{0, -1}, {math.MaxInt, math.MinInt}, {-1, math.MinInt}}, []int{math.MinInt, -1, 0, math.MaxInt}}, {[][]int{{10, 9, 100}}, []int{9, 10, 100}},
	} {
		if got := index.Union(c.lists...); !slices.Equal(got, c.want) {
			t.Errorf("Union(%v) = %v, not %v", c.lists, got, c.want)
		}
	}
}

// P15.1: Union by chance: what is in one of the lists, and no more.
func TestUnionByChance(t *testing.T) {
	chance := rand.New(rand.NewPCG(15, 2))
	for range 500 {
		lists := make([][]int, chance.IntN(5))
		var want []int
		for i := range lists {
			for range chance.IntN(9) {
				lists[i] = append(lists[i], chance.IntN(12)-3)
			}
		}
		for n := -4; n < 10; n++ {
			if slices.ContainsFunc(lists, func(list []int) bool { return slices.Contains(list, n) }) {
				want = append(want, n)
			}
		}
		if got := index.Union(lists...); !slices.Equal(got, want) {
			t.Fatalf("Union(%v) = %v, not %v", lists, got, want)
		}
	}
}

// P15.1, rule 6: indexes have nothing to do with one another.
func TestSideBySide(t *testing.T) {
	one, two := example(t), newPair(t)
	if one.x == two.x || index.New() == index.New() {
		t.Fatal("two indexes are one")
	}
	two.put(7, made(t, "a {2}")...)
	if !slices.Equal(two.x.Numbers(7), []int{1}) {
		t.Errorf("Numbers = %v", two.x.Numbers(7))
	}
	one.drop(7)
	one.hold(events()...)
	two.hold(events()...)
	two.put(7, made(t, `c "x"* | a {1}`)...)
	one.compact()
	one.put(1, always)
	one.hold(events()...)
	two.hold(events()...)
	two.drop(7)
	one.hold(events()...)
	if two.compact() != 3 || one.compact() != 0 {
		t.Error("one's dead are the other's")
	}
	two.hold(events()...)
}

// P15.1 to P15.4: all rows of four calls among some, held behind each call.
func TestAllRows(t *testing.T) {
	two, negative := made(t, `a {1} | a [0, 7] & c "x"*`), made(t, "!a {1}")
	calls := []func(p *pair){
		func(p *pair) { p.put(1, two...) }, func(p *pair) { p.put(1, negative...) }, func(p *pair) { p.put(2, negative...) }, func(p *pair) { p.put(2) }, func(p *pair) { p.put(1, two[0], badConjs()[2]) },
		func(p *pair) { p.drop(1) }, func(p *pair) { p.drop(2, 1, 2) }, func(p *pair) { p.compact() },
	}
	const length = 4
	count := 1
	for range length {
		count *= len(calls)
	}
	for row := range count {
		p := newPair(t)
		for range length {
			calls[row%len(calls)](p)
			row /= len(calls)
			holdSubs(t, p.x, p.s)
		}
		p.hold([]api.Pair{number("a", 1)}, []api.Pair{number("a", 1), word("c", "x")})
	}
}

// P15.1 to P15.4: long rows by chance.
func TestRowsByChance(t *testing.T) {
	chance := rand.New(rand.NewPCG(15, 3))
	matched, several := 0, 0
	for range 120 {
		attrs := []string{"a", "b", "c", "d"}[:1+chance.IntN(4)]
		p := newPair(t)
		for range 40 {
			switch chance.IntN(10) {
			case 0:
				p.compact()
			case 1, 2:
				var ids []int
				for range chance.IntN(4) {
					ids = append(ids, chance.IntN(14)-1)
				}
				p.drop(ids...)
			case 3:
				p.put(chance.IntN(14)-1, append(someConjs(t, chance, attrs...), badConjs()[chance.IntN(26)])...)
			default:
				p.put(chance.IntN(14)-1, someConjs(t, chance, attrs...)...)
			}
			p.hold(someEvent(chance, attrs...))
			met := len(p.x.Match(someEvent(chance, attrs...)))
			matched += met
			if met > 1 {
				several++
			}
		}
	}
	if matched < 5000 || several < 1000 {
		t.Errorf("%d matched, %d times several: too few to tell much", matched, several)
	}
}
