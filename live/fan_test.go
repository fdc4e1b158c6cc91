package live_test

import (
	"math"
	"math/rand/v2"
	"slices"
	"testing"

	"trommel/api"
	"trommel/conj"
	"trommel/live"
	"trommel/parse"
)

// counts are numbers of shards: below the least, all that there may be, above the most.
func counts() []int {
	list := []int{math.MinInt, -9, -1, 0}
	for n := 1; n <= api.MaxShards; n++ {
		list = append(list, n)
	}
	return append(list, api.MaxShards+1, 99, 1<<32+1, math.MaxInt)
}

// wantFan asks each conjunction by itself.
func wantFan(subs [][]api.Conj, events [][]api.Pair) [][]int {
	rows := make([][]int, len(events))
	for i, event := range events {
		for number, conjs := range subs {
			holds, normal := false, true
			for _, c := range conjs {
				holds = holds || conj.Holds(c, event)
				normal = normal && conj.Check(c) == api.OK
			}
			if holds && normal {
				rows[i] = append(rows[i], number+1)
			}
		}
	}
	return rows
}

// fans holds that Fan answers so with any number of shards, and that the conjunctions asked one by one do.
func fans(t *testing.T, subs [][]api.Conj, events [][]api.Pair, want ...[]int) {
	t.Helper()
	if model := wantFan(subs, events); !sameLists(model, want) {
		t.Fatalf("the conjunctions answer %v, not %v", model, want)
	}
	for _, shards := range counts() {
		if got := live.Fan(shards, subs, events...); !sameLists(got, want) {
			t.Fatalf("Fan(%d, %v, %v) = %v, not %v", shards, subs, events, got, want)
		}
	}
}

// made are the conjunctions of a text.
func made(t *testing.T, text string) []api.Conj {
	t.Helper()
	n, place, e := parse.Parse(text)
	if e != api.OK {
		t.Fatalf("Parse(%s): %d at %d", text, e, place)
	}
	list, e := conj.All(n, api.MaxConj)
	if e != api.OK {
		t.Fatalf("All(%s): %d", text, e)
	}
	return list
}

// P24.1: no subscriptions, no events, neither; the chapter's examples.
func TestFanNothing(t *testing.T) {
	one := [][]api.Conj{{must(ints("a", 1))}}
	fans(t, nil, nil)
	fans(t, [][]api.Conj{}, [][]api.Pair{})
	fans(t, one, nil)
	fans(t, nil, [][]api.Pair{nil}, nil)
	fans(t, nil, [][]api.Pair{{number("a", 1)}}, nil)
	fans(t, nil, [][]api.Pair{nil, {number("a", 1)}, {{}}}, nil, nil, nil)
	if got := live.Fan(3, nil, []api.Pair{number("a", 1)}); len(got) != 1 || len(got[0]) != 0 {
		t.Errorf("Fan = %v", got)
	}
	if got := live.Fan(3, one); len(got) != 0 {
		t.Errorf("Fan = %v", got)
	}
}

// P24.1: the numbers are the subscriptions' places from 1 on, rising, each once, event by event.
func TestFanNumbers(t *testing.T) {
	subs := [][]api.Conj{made(t, "a {1}"), made(t, "!a {1}"), made(t, `a {1} | c "x"* | a [0, 9]`), made(t, `a {2} & c {"xy"} | !c ""* & !b {1}`), made(t, "a {1} & a {2}")}
	fans(t, subs, [][]api.Pair{nil, {number("a", 1)}, {number("a", 2), word("c", "xy")}, {word("c", "x")}, {number("a", 1)}, {number("b", 1)}},
		[]int{2, 4}, []int{1, 3, 4}, []int{2, 3, 4}, []int{2, 3}, []int{1, 3, 4}, []int{2})
	// Each of twenty has twenty conjunctions, so that every shard owns some of each.
	var many [][]api.Conj
	var all []int
	for i := range 20 {
		var conjs []api.Conj
		for j := range 20 {
			conjs = append(conjs, must(ints("a", i*j)), must(ints("b", j)))
		}
		many, all = append(many, conjs), append(all, i+1)
	}
	fans(t, many, [][]api.Pair{{number("a", 0)}, {number("b", 19)}, {number("b", 20)}, {number("a", 19*19)}, {number("a", 7)}, {number("b", 0), number("a", 0)}}, all, all, nil, []int{20}, []int{2, 8}, all)
}

// P24.1: a subscription without conjunctions is never met; nor is one whose conjunctions are Never; one without a predicate always is.
func TestFanNeverAndAlways(t *testing.T) {
	empty := api.Conj{Never: true, Pos: []api.Pred{}, Neg: []api.Pred{}}
	subs := [][]api.Conj{{}, nil, {never}, {always}, {never, never, empty}, {never, always, never}, {always, always, always, always, always, always, always, always, always}, {{Pos: []api.Pred{}, Neg: []api.Pred{}}}, {never, must(ints("a", 1)), never}}
	fans(t, subs, [][]api.Pair{nil, {number("a", 1)}, {word("a", "x"), {}}}, []int{4, 6, 7, 8}, []int{4, 6, 7, 8, 9}, []int{4, 6, 7, 8})
}

// P24.1: one conjunction that isn't normal, wherever it stands among normal ones and whosever it is, and the subscription has none; the others have theirs.
func TestFanNotNormal(t *testing.T) {
	for _, bad := range badConjs() {
		for place := range 9 {
			spoilt := slices.Insert(slices.Repeat([]api.Conj{always}, 8), place, bad)
			subs := [][]api.Conj{{always}, spoilt, {must(ints("a", 1))}, {bad}, {bad, bad}}
			fans(t, subs, [][]api.Pair{nil, {number("a", 1)}, {number("a", 2), word("c", "x")}, {{}}}, []int{1}, []int{1, 3}, []int{1}, []int{1})
		}
	}
}

// P24.1: events that aren't in form: a name twice, where the first counts, names that are none, values out of form or of another kind.
func TestFanEvents(t *testing.T) {
	subs := [][]api.Conj{made(t, "a {1}"), made(t, "!a {1}"), made(t, "a {2}"), made(t, `c "x"*`), made(t, `!c ""*`), made(t, "a [-2147483648, 2147483647]")}
	fans(t, subs, [][]api.Pair{
		{number("a", 1), number("a", 2)}, {number("a", 2), number("a", 1), number("a", 1)}, {word("c", "x"), word("c", "y"), number("a", 1)}, {number("z", 1), number("", 1), number("A", 1), {}}, {word("a", "1")}, {number("c", 1)},
	}, []int{1, 5, 6}, []int{2, 3, 5, 6}, []int{1, 4, 6}, []int{2, 5}, []int{2, 5}, []int{2, 5})
	var list [][]api.Pair
	for _, v := range badValues() {
		list = append(list, []api.Pair{{Name: "a", Value: v}}, []api.Pair{{Name: "a", Value: v}, number("a", 1)}, []api.Pair{number("a", 1), {Name: "a", Value: v}}, []api.Pair{{Name: "c", Value: v}, number("a", 2)})
	}
	fans(t, subs, list, wantFan(subs, list)...)
	out := api.Pair{Name: "a", Value: api.Value{Kind: api.KindInt, Int: api.Most + 1}}
	fans(t, subs, [][]api.Pair{{out}, {out, number("a", 1)}, {number("a", 1), out}}, []int{2, 5}, []int{2, 5}, []int{1, 5, 6})
}

// P24.1, P24.2: far more events, and far more subscriptions, than a queue has room for.
func TestFanMany(t *testing.T) {
	var subs [][]api.Conj
	var list [][]api.Pair
	for i := range 2500 {
		subs = append(subs, []api.Conj{must(ints("a", i%50)), must(ints("b", i))})
		list = append(list, []api.Pair{number("b", 2*i)})
	}
	list = append(list, []api.Pair{number("a", 7)})
	want := wantFan(subs[:50], nil)
	for i := range 2500 {
		var row []int
		if 2*i < 2500 {
			row = []int{2*i + 1}
		}
		want = append(want, row)
	}
	var row []int
	for i := 7; i < 2500; i += 50 {
		row = append(row, i+1)
	}
	want = append(want, row)
	for _, shards := range []int{1, 2, 7, 8} {
		if got := live.Fan(shards, subs, list...); !sameLists(got, want) {
			t.Fatalf("Fan with %d shards answers otherwise", shards)
		}
	}
}

// P24.1, P24.2, P8: by chance, with any number of shards.
func TestFanByChance(t *testing.T) {
	chance := rand.New(rand.NewPCG(24, 2))
	met, several, spoilt := 0, 0, 0
	for range 60 {
		subs := someSubs(t, chance, chance.IntN(30))
		var list [][]api.Pair
		for range chance.IntN(30) {
			list = append(list, someEvent(chance))
		}
		want := wantFan(subs, list)
		for _, row := range want {
			if len(row) > 0 {
				met++
			}
			if len(row) > 1 {
				several++
			}
		}
		for _, conjs := range subs {
			if slices.ContainsFunc(conjs, func(c api.Conj) bool { return conj.Check(c) != api.OK }) {
				spoilt++
			}
		}
		fans(t, subs, list, want...)
	}
	if met < 300 || several < 200 || spoilt < 50 {
		t.Errorf("%d events met something, %d several, %d subscriptions were spoilt: too few to tell much", met, several, spoilt)
	}
}
