package part_test

import (
	"math/rand/v2"
	"slices"
	"strconv"
	"testing"

	"trommel/api"
	"trommel/conj"
	"trommel/part"
)

// judgement is what is told of an event.
type judgement struct {
	event         []api.Pair
	match, judged []int
}

// holdJudged holds Match and Judged to what is said, and all else to the shelf.
func holdJudged(t *testing.T, x *pair, list ...judgement) {
	t.Helper()
	for _, j := range list {
		if match, trace := x.p.Match(j.event), x.p.Trace(j.event); !slices.Equal(match, j.match) || !slices.Equal(trace.Judged, j.judged) {
			t.Errorf("%v: Match = %v, Judged %v, not %v, %v", j.event, match, trace.Judged, j.match, j.judged)
		}
		x.hold(j.event)
	}
}

// P14.1, P14.4: in partition 0 all are judged; one post out, and it doesn't match.
func TestJudgedInPartitionZero(t *testing.T) {
	x := newPair(t)
	x.add(1, made(t, "!a {5}"))
	x.add(2, made(t, "!a {4, 5} & !a [0, 7]"))
	x.add(3, made(t, `!a {6} & !c "x"*`))
	x.add(4, always)
	x.add(5, never)
	all := []int{1, 2, 3, 4}
	holdJudged(t, x,
		judgement{nil, all, all}, judgement{[]api.Pair{number("a", 5)}, []int{3, 4}, all}, judgement{[]api.Pair{number("a", 6)}, []int{1, 4}, all}, judgement{[]api.Pair{number("a", 8)}, all, all},
		judgement{[]api.Pair{word("c", "xx")}, []int{1, 2, 4}, all}, judgement{[]api.Pair{number("a", 6), word("c", "x")}, []int{1, 4}, all}, judgement{[]api.Pair{number("a", 5), word("c", "x")}, []int{4}, all}, judgement{[]api.Pair{word("a", "5")}, all, all},
	)
	x.drop(2, 4)
	holdJudged(t, x, judgement{nil, []int{1, 3}, []int{1, 3}}, judgement{[]api.Pair{number("a", 5)}, []int{3}, []int{1, 3}})
}

// P14.1, P14.4: above it: fewer lists than K, just K, more than K, with posts that are out among them.
func TestJudgedAbove(t *testing.T) {
	x := newPair(t)
	x.add(1, made(t, "a {5} & b {5}"))
	x.add(2, made(t, "a {5} & b {5} & !c {5}"))
	x.add(3, made(t, "a {5} & b {5} & !a [0, 7]"))
	x.add(4, made(t, "a {5} & b {5} & !a {5}"))
	x.add(5, made(t, "a {5} & !b {5} & !c {5}"))
	x.add(6, made(t, "a {5} & b {5} & c {5}"))
	x.add(7, made(t, "a {5} & b {6} & !b {5}"))
	n := func(name string) api.Pair { return number(name, 5) }
	holdJudged(t, x,
		judgement{nil, nil, nil},
		// Of one attribute two lists would stand on 3, but partition 2 isn't opened.
		judgement{[]api.Pair{n("a")}, []int{5}, []int{5}},
		// Here it is. On 4 one list stands, with two posts: they count once.
		judgement{[]api.Pair{n("a"), number("d", 1)}, []int{5}, []int{3, 5}},
		// Lists in which a conjunction is out count as well as those in which it is in.
		judgement{[]api.Pair{n("a"), n("b")}, []int{1, 2}, []int{1, 2, 3, 4, 5, 7}},
		judgement{[]api.Pair{n("b"), n("c")}, nil, []int{2, 5}},
		judgement{[]api.Pair{n("a"), n("c")}, nil, []int{2, 3, 5}},
		judgement{[]api.Pair{n("a"), number("b", 6)}, []int{5, 7}, []int{3, 5, 7}},
		judgement{[]api.Pair{n("a"), n("b"), n("c")}, []int{1, 6}, []int{1, 2, 3, 4, 5, 6, 7}},
		judgement{[]api.Pair{n("a"), n("b"), number("c", 6)}, []int{1, 2}, []int{1, 2, 3, 4, 5, 7}},
		judgement{[]api.Pair{number("a", 4), n("b"), n("c")}, nil, []int{2, 3, 5}},
		judgement{[]api.Pair{number("a", 8), n("b"), n("c")}, nil, []int{2, 5}},
	)
}

// P14.1, P14.2: events without pairs, with a name twice, with values out of form, with names that are none.
func TestEvents(t *testing.T) {
	x := example(t)
	x.add(4, made(t, "a {5} & b {5}"))
	x.add(5, made(t, "b {5} & !a {5}"))
	bad := api.Pair{Name: "a", Value: api.Value{Kind: api.KindInt, Int: api.Most + 1}}
	holdJudged(t, x,
		judgement{nil, []int{3}, []int{3}}, judgement{[]api.Pair{}, []int{3}, []int{3}},
		judgement{[]api.Pair{number("a", 5), number("a", 6)}, []int{2}, []int{2, 3, 5}},
		judgement{[]api.Pair{number("a", 9), number("a", 5)}, []int{3}, []int{3}},
		judgement{[]api.Pair{number("a", 5), number("b", 9), number("b", 5)}, []int{2}, []int{2, 3, 5}},
		judgement{[]api.Pair{number("b", 5), number("a", 5), number("b", 9)}, []int{2, 4}, []int{2, 3, 4, 5}},
		// One out of form hides those behind it, and doesn't count.
		judgement{[]api.Pair{bad, number("a", 5)}, []int{3}, []int{3}}, judgement{[]api.Pair{number("a", 5), bad}, []int{2}, []int{2, 3, 5}},
		judgement{[]api.Pair{bad, number("b", 5), number("a", 5)}, []int{3, 5}, []int{3, 5}},
		judgement{[]api.Pair{word("c", "x"), number("a", 5)}, []int{1, 2}, []int{1, 2, 3, 5}}, judgement{[]api.Pair{word("a", "5"), word("b", "5")}, []int{3}, []int{3}},
		judgement{[]api.Pair{{}}, []int{3}, []int{3}}, judgement{[]api.Pair{number("", 5)}, []int{3}, []int{3}}, judgement{[]api.Pair{number("A", 5), number("a", 5)}, []int{2}, []int{2, 3, 5}},
	)
	for _, v := range badValues() {
		holdJudged(t, x, judgement{[]api.Pair{{Name: "a", Value: v}}, []int{3}, []int{3}}, judgement{[]api.Pair{{Name: "b", Value: v}, number("a", 5), {Name: "c", Value: v}, number("b", 5)}, []int{2}, []int{2, 3, 5}})
	}
}

// P14.1, P14.2: which partitions are opened hangs on how many unlike names have a value in form.
func TestHowManyAttributes(t *testing.T) {
	x := newPair(t)
	x.add(1, made(t, "a {5}"))
	x.add(2, made(t, "a {5} & b {5}"))
	x.add(3, made(t, "a {5} & b {5} & c {5}"))
	for _, c := range []struct {
		event []api.Pair
		parts []int
	}{
		{nil, nil}, {[]api.Pair{number("a", 5)}, []int{1}}, {[]api.Pair{number("a", 5), number("a", 5), number("a", 5)}, []int{1}}, {[]api.Pair{number("a", 5), number("d", 5)}, []int{1, 2}}, {[]api.Pair{number("d", 5), number("a", 5), number("d", 6)}, []int{1, 2}},
		{[]api.Pair{number("a", 5), {Name: "d"}}, []int{1}}, {[]api.Pair{number("a", 5), {Name: "d"}, number("d", 5)}, []int{1}}, {[]api.Pair{number("a", 5), word("d", ""), word("e", "x")}, []int{1, 2, 3}}, {[]api.Pair{number("a", 5), word("d", ""), word("e", longest+"w")}, []int{1, 2}},
		{[]api.Pair{number("a", 5), number("d", 0), number("e", 0), number("f", 0), number("g", 0)}, []int{1, 2, 3}}, {[]api.Pair{number("d", 5), number("e", 5), number("f", 5)}, nil},
	} {
		var parts []int
		for _, o := range x.p.Trace(c.event).Lists {
			parts = append(parts, o.Part)
		}
		if !slices.Equal(parts, c.parts) {
			t.Errorf("Trace(%v) opens partitions %v, not %v", c.event, parts, c.parts)
		}
		x.hold(c.event)
	}
}

// P14.1, P14.2: lists are opened under the event's own keys alone: its value, spans of its path, beginnings of its word.
func TestOpenedLists(t *testing.T) {
	x := newPair(t)
	texts := []string{"a {5, 6}", "a {6}", "a [4, 5]", "a [0, 9]", "a [-2147483648, 2147483647]", "a [6, 9]", `a {"5"}`, `c ""*`, `c "x"*`, `c "xy"*`, `c {"x", "xy"}`, `c {"xyz"}`, `c "xyz"*`, "b {5}"}
	for i, text := range texts {
		x.add(i+1, made(t, text))
	}
	event := []api.Pair{number("a", 5), word("c", "xy")}
	want := []api.Opened{
		opened(1, intKey("a", 5), 1), opened(1, spanKey("a", 1, 1<<30+2), 1), opened(1, spanKey("a", 3, 1<<28), 1), opened(1, spanKey("a", 32, 0), 1),
		opened(1, wordKey("c", "xy"), 1), opened(1, prefixKey("c", ""), 1), opened(1, prefixKey("c", "x"), 1), opened(1, prefixKey("c", "xy"), 1),
	}
	if got := x.p.Trace(event); !slices.Equal(got.Lists, want) || !slices.Equal(got.Judged, []int{1, 3, 4, 5, 8, 9, 10, 11}) || !slices.Equal(x.p.Match(event), got.Judged) {
		t.Errorf("Trace = %v", got)
	}
	x.hold(event, event[:1], event[1:], []api.Pair{number("a", api.Least)}, []api.Pair{number("a", api.Most), word("c", longest)})
}

// P14.1: dead conjunctions stay in the lists, unseen; a list of dead ones alone isn't opened.
func TestDeadInLists(t *testing.T) {
	x := newPair(t)
	for id := 1; id <= 9; id++ {
		x.add(id, made(t, []string{"a {5}", "a {5} & !c {5}", "!a {5}"}[id%3]))
	}
	a, c := number("a", 5), number("c", 5)
	holdJudged(t, x, judgement{[]api.Pair{a, c}, []int{3, 6, 9}, []int{1, 2, 3, 4, 5, 6, 7, 8, 9}})
	x.drop(1, 4, 6, 8)
	holdJudged(t, x, judgement{[]api.Pair{a, c}, []int{3, 9}, []int{2, 3, 5, 7, 9}}, judgement{[]api.Pair{a}, []int{3, 7, 9}, []int{2, 3, 5, 7, 9}}, judgement{nil, []int{2, 5}, []int{2, 5}})
	if got := x.p.Trace([]api.Pair{a, c}).Lists; !slices.Equal(got, []api.Opened{opened(0, zeroKey, 2), opened(0, intKey("a", 5), 2), opened(1, intKey("a", 5), 3), opened(1, intKey("c", 5), 1)}) {
		t.Errorf("Trace opens %v", got)
	}
	// The last ones of the lists under c 5 and in partition 0.
	x.drop(7, 2, 5)
	if got := x.p.Trace([]api.Pair{a, c}); !slices.Equal(got.Lists, []api.Opened{opened(1, intKey("a", 5), 2)}) || !slices.Equal(got.Judged, []int{3, 9}) {
		t.Errorf("Trace = %v", got)
	}
	x.hold([]api.Pair{a, c})
	x.compact()
	x.add(8, made(t, "!a {5} & !c {6}"))
	x.hold([]api.Pair{a, c}, []api.Pair{number("c", 6)})
}

// P14.1: the order in which conjunctions were put in plays no part.
func TestOrderOfAdds(t *testing.T) {
	chance := rand.New(rand.NewPCG(14, 1))
	attrs := []string{"a", "b", "c"}
	for range 60 {
		conjs := map[int]api.Conj{}
		var ids []int
		for id := 1; id <= 12; id++ {
			conjs[id] = someConj(t, chance, attrs...)
			ids = append(ids, id)
		}
		first, second := part.New(), newPair(t)
		for _, id := range ids {
			first.Add(id, conjs[id])
		}
		chance.Shuffle(len(ids), func(i, j int) { ids[i], ids[j] = ids[j], ids[i] })
		for _, id := range ids {
			second.add(id, conjs[id])
		}
		for range 8 {
			event := someEvent(chance, attrs...)
			if !slices.Equal(first.Match(event), second.p.Match(event)) || !sameTrace(first.Trace(event), second.p.Trace(event)) {
				t.Fatalf("%v: the order of adds is to be seen under %v", second.s, event)
			}
			second.hold(event)
		}
	}
}

// P14.1 to P14.5: all rows of four calls among some, held behind each call.
func TestAllRows(t *testing.T) {
	both, negative := made(t, "a {5} & !a {6} & c \"x\"*"), made(t, "!a {5}")
	events := [][]api.Pair{{number("a", 5)}, {number("a", 5), word("c", "x")}}
	calls := []func(x *pair){
		func(x *pair) { x.add(1, both) }, func(x *pair) { x.add(1, never) }, func(x *pair) { x.add(2, negative) }, func(x *pair) { x.add(2, made(t, "a [0, 7] & !c {\"x\"}")) }, func(x *pair) { x.add(0, both) }, func(x *pair) { x.add(1, badConjs()[3]) },
		func(x *pair) { x.drop(1) }, func(x *pair) { x.drop(2, 1, 2) }, func(x *pair) { x.compact() },
	}
	const length = 4
	count := 1
	for range length {
		count *= len(calls)
	}
	for row := range count {
		x := newPair(t)
		for range length {
			calls[row%len(calls)](x)
			row /= len(calls)
			holdSizes(t, x.p, x.s)
		}
		x.hold(events...)
	}
}

// P14.1 to P14.5: long rows by chance.
func TestRowsByChance(t *testing.T) {
	chance := rand.New(rand.NewPCG(14, 2))
	matched, judged, high := 0, 0, 0
	for range 150 {
		attrs := []string{"a", "b", "c", "d"}[:1+chance.IntN(4)]
		x := newPair(t)
		for range 40 {
			switch chance.IntN(10) {
			case 0:
				x.compact()
			case 1, 2:
				var ids []int
				for range chance.IntN(5) {
					ids = append(ids, chance.IntN(24)-1)
				}
				x.drop(ids...)
			default:
				x.add(chance.IntN(24)-1, someConj(t, chance, attrs...))
			}
			event := someEvent(chance, attrs...)
			holdSizes(t, x.p, x.s)
			holdZero(t, x.p, x.s)
			holdEvent(t, x.p, x.s, event)
			for _, id := range x.p.Match(event) {
				matched++
				if x.p.Partition(id) > 1 {
					high++
				}
			}
			judged += len(x.p.Trace(event).Judged)
		}
		x.hold(someEvent(chance, attrs...))
	}
	if matched < 5000 || high < 100 || judged < matched+1000 {
		t.Errorf("%d matched, %d of them in partitions above 1, %d judged: too few to tell much", matched, high, judged)
	}
}

// P14.1, P14.4: partitions up to a great one, under events with as many attributes, one fewer and many more.
func TestGreatPartitions(t *testing.T) {
	x := newPair(t)
	var event []api.Pair
	var pos []api.Pred
	for i := range 130 {
		name := "n" + strconv.Itoa(100+i)
		event = append(event, number(name, i))
		if i < 100 {
			pos = append(pos, ints(name, i))
		}
		if k := len(pos); i < 100 && (k < 4 || k > 97 || k%20 == 0) {
			c := api.Conj{Pos: slices.Clone(pos)}
			if k%2 == 0 {
				c.Neg = []api.Pred{ints("n100", 1, 2)}
			}
			x.add(1000-k, c)
		}
	}
	if got := x.p.Match(event); len(got) != len(x.s.entries) || got[0] != 900 || x.p.Partition(900) != 100 {
		t.Errorf("Match = %v", got)
	}
	if got := x.p.Match(event[:99]); len(got) != len(x.s.entries)-1 || got[0] != 901 {
		t.Errorf("Match = %v", got)
	}
	moved := slices.Clone(event[:101])
	moved[0] = number("n100", 1)
	if trace := x.p.Trace(moved); len(x.p.Match(moved)) != 0 || slices.Contains(trace.Judged, 999) || !slices.Contains(trace.Judged, 998) || slices.Contains(trace.Judged, 901) {
		t.Errorf("Judged %v", trace.Judged)
	}
	for _, e := range [][]api.Pair{event[:3], event[98:], event[:60], moved} {
		holdEvent(t, x.p, x.s, e)
	}
	holdSizes(t, x.p, x.s)
}

// P14.1: many conjunctions, in lists with many posts.
func TestMany(t *testing.T) {
	x := part.New()
	const count = 20000
	var want []int
	var posts []api.Post
	for id := 1; id <= count; id++ {
		pos := []api.Pred{ints("a", id%7), span("b", 0, id)}
		if e := x.Add(id, api.Conj{Pos: pos, Neg: []api.Pred{ints("c", id%5)}}); e != api.OK {
			t.Fatal(e)
		}
		if id%7 == 3 && id >= 500 && id%5 != 2 && id%3 != 0 {
			want = append(want, id)
		}
		if id%7 == 3 && id%3 != 0 {
			posts = append(posts, in(id))
		}
	}
	for id := 3; id <= count; id += 3 {
		x.Drop(id)
	}
	event := []api.Pair{number("c", 2), number("b", 500), number("a", 3), number("d", 1)}
	for range 2 {
		if got := x.Match(event); !slices.Equal(got, want) || x.Live() != count-count/3 {
			t.Errorf("%d match, not %d; Live %d", len(got), len(want), x.Live())
		}
		if got := x.Posts(2, intKey("a", 3)); !slices.Equal(got, posts) {
			t.Errorf("%d posts, not %d", len(got), len(posts))
		}
		x.Compact()
	}
}

// P14.1: an event with very many attributes, each with a list of its own.
func TestManyAttributes(t *testing.T) {
	x := part.New()
	const count = 20000
	var event []api.Pair
	var want []int
	for id := 1; id <= count; id++ {
		name := "n" + strconv.Itoa(id)
		if id%2 == 0 {
			x.Add(id, api.Conj{Pos: []api.Pred{prefix(name, "x")}})
			want = append(want, id)
		} else {
			x.Add(id, api.Conj{Neg: []api.Pred{prefix(name, "x")}})
		}
		event = append(event, word(name, "xy"))
	}
	if got := x.Match(event); !slices.Equal(got, want) {
		t.Errorf("%d match", len(got))
	}
	trace := x.Trace(event)
	if len(trace.Lists) != count+1 || trace.Lists[0] != (api.Opened{Part: 0, Key: zeroKey, Posts: count / 2}) || len(trace.Judged) != count || !slices.IsSorted(trace.Judged) {
		t.Errorf("%d lists, %d judged", len(trace.Lists), len(trace.Judged))
	}
}

// P14.1 to P14.4: conjunctions of whole expressions: what matches is what holds.
func TestOfExpressions(t *testing.T) {
	chance := rand.New(rand.NewPCG(14, 3))
	x := newPair(t)
	for id := 1; id <= 120; id++ {
		x.add(id, someConj(t, chance, "a", "b", "c"))
	}
	for range 200 {
		event := someEvent(chance, "a", "b", "c", "d")
		var want []int
		for _, e := range x.s.rising() {
			if conj.Holds(e.c, event) {
				want = append(want, e.id)
			}
		}
		if got := x.p.Match(event); !slices.Equal(got, want) {
			t.Fatalf("Match(%v) = %v, not %v", event, got, want)
		}
		holdEvent(t, x.p, x.s, event)
	}
}
