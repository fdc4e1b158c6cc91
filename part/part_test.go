package part_test

import (
	"math"
	"slices"
	"testing"

	"trommel/api"
	"trommel/key"
	"trommel/part"
)

// example is the part of the chapter's examples.
func example(t *testing.T) *pair {
	t.Helper()
	x := newPair(t)
	x.add(1, made(t, `a {5} & c "x"*`))
	x.add(2, made(t, `a [0, 7] & !c {"y"}`))
	x.add(3, made(t, `!a {5}`))
	return x
}

// exampleEvents are the events of the chapter's examples.
func exampleEvents() [][]api.Pair {
	return [][]api.Pair{{number("a", 5), word("c", "xy")}, {word("c", "x")}, {number("a", 5), word("c", "y")}}
}

// P14.1: the chapter's examples.
func TestExamples(t *testing.T) {
	x := example(t)
	p, events := x.p, exampleEvents()
	if p.Partition(1) != 2 || p.Partition(2) != 1 || p.Partition(3) != 0 {
		t.Errorf("partitions %d, %d, %d", p.Partition(1), p.Partition(2), p.Partition(3))
	}
	trace := p.Trace(events[0])
	lists := []api.Opened{opened(0, zeroKey, 1), opened(0, intKey("a", 5), 1), opened(1, spanKey("a", 3, 1<<28), 1), opened(2, intKey("a", 5), 1), opened(2, prefixKey("c", "x"), 1)}
	if got := p.Match(events[0]); !slices.Equal(got, []int{1, 2}) || !slices.Equal(trace.Lists, lists) || !slices.Equal(trace.Judged, []int{1, 2, 3}) {
		t.Errorf("Match = %v, Trace = %v", got, trace)
	}
	if got := p.Posts(0, intKey("a", 5)); !slices.Equal(got, []api.Post{out(3)}) {
		t.Errorf("Posts = %v", got)
	}
	trace = p.Trace(events[1])
	if got := p.Match(events[1]); !slices.Equal(got, []int{3}) || !slices.Equal(trace.Lists, lists[:1]) || !slices.Equal(trace.Judged, []int{3}) {
		t.Errorf("Match = %v, Trace = %v", got, trace)
	}
	trace = p.Trace(events[2])
	lists = []api.Opened{opened(0, zeroKey, 1), opened(0, intKey("a", 5), 1), opened(1, spanKey("a", 3, 1<<28), 1), opened(1, wordKey("c", "y"), 1), opened(2, intKey("a", 5), 1)}
	if got := p.Match(events[2]); len(got) != 0 || !slices.Equal(trace.Lists, lists) || !slices.Equal(trace.Judged, []int{2, 3}) {
		t.Errorf("Match = %v, Trace = %v", got, trace)
	}
	x.hold(events...)
	again := made(t, "a {5}")
	if got := p.Drop(2); got != 1 || !slices.Equal(p.Match(events[0]), []int{1}) || p.Dead() != 1 || p.Live() != 2 {
		t.Errorf("Drop = %d, Match = %v, Dead %d, Live %d", got, p.Match(events[0]), p.Dead(), p.Live())
	}
	if p.Add(2, again) != api.ErrForm || p.Compact() != 1 || p.Dead() != 0 || p.Add(2, again) != api.OK || p.Live() != 3 {
		t.Error("a dead one's number")
	}
	if got := p.Match(events[0]); !slices.Equal(got, []int{1, 2}) {
		t.Errorf("Match = %v", got)
	}
}

// P14.1: what a part without anything tells.
func TestEmpty(t *testing.T) {
	x := newPair(t)
	for range 2 {
		x.hold(exampleEvents()...)
		if x.p.Live() != 0 || x.p.Dead() != 0 || x.p.Drop() != 0 || x.p.Drop(1, 0, -1, math.MaxInt) != 0 || x.p.Compact() != 0 {
			t.Error("nothing was put in")
		}
		for _, event := range append(exampleEvents(), nil) {
			if trace := x.p.Trace(event); len(x.p.Match(event)) != 0 || len(trace.Lists) != 0 || len(trace.Judged) != 0 {
				t.Errorf("Trace(%v) = %v", event, trace)
			}
		}
	}
}

// P14.1: numbers below 1 are refused, ahead of what else is wrong; nothing changes.
func TestNumbersOutOfRange(t *testing.T) {
	x := example(t)
	for _, id := range []int{0, -1, -5, math.MinInt, math.MinInt32, -1 << 40} {
		for _, c := range append(badConjs(), always, never, made(t, "a {5}")) {
			if got := x.add(id, c); got != api.ErrRange {
				t.Errorf("Add(%d, %v) = %d", id, c, got)
			}
		}
		if x.drop(id) != 0 || x.p.Partition(id) != -1 {
			t.Errorf("%d is there", id)
		}
	}
	x.hold(exampleEvents()...)
}

// P14.1: the least number, and the greatest there are.
func TestGreatNumbers(t *testing.T) {
	x := newPair(t)
	numbers := []int{math.MaxInt, 1, math.MaxInt - 1, 1 << 40, 2, 1<<40 + 1, 1 << 62, math.MaxInt32, math.MaxInt32 + 1, math.MaxUint32 + 1}
	event := []api.Pair{number("a", 5), word("c", "x")}
	for i, id := range numbers {
		if got := x.add(id, made(t, []string{"a {5}", `a {5} & c "x"*`, "!a {4}", "a {5} & !a {5}"}[i%4])); got != api.OK {
			t.Errorf("Add(%d) = %d", id, got)
		}
		x.hold(event, event[:1], event[1:])
	}
	x.drop(math.MaxInt, 1<<40)
	x.hold(event)
	x.compact()
	x.hold(event)
	x.add(math.MaxInt, made(t, `c "x"*`))
	x.hold(event)
}

// P14.1: a conjunction that isn't normal is refused, and its number stays free.
func TestNotNormal(t *testing.T) {
	x := example(t)
	for _, c := range badConjs() {
		for _, id := range []int{1, 4, math.MaxInt} {
			if got := x.add(id, c); got != api.ErrForm {
				t.Errorf("Add(%d, %v) = %d", id, c, got)
			}
		}
	}
	x.hold(exampleEvents()...)
	if x.add(4, always) != api.OK {
		t.Error("a number that was refused isn't free")
	}
	x.hold(exampleEvents()...)
}

// P14.1: a number that is there is refused, live or dead, whatever the conjunction; behind Compact it is free.
func TestNumberThatIsThere(t *testing.T) {
	first, second := made(t, "a {5}"), made(t, `a {6} & !c "x"*`)
	events := [][]api.Pair{{number("a", 5)}, {number("a", 6)}, {number("a", 6), word("c", "xy")}}
	for _, c := range []api.Conj{first, always, never} {
		x := newPair(t)
		x.add(7, c)
		for _, other := range append(badConjs(), first, second, always, never) {
			if got := x.add(7, other); got != api.ErrForm {
				t.Errorf("Add of a live one's number = %d", got)
			}
		}
		x.hold(events...)
		x.drop(7)
		for _, other := range []api.Conj{first, second, always, never} {
			if got := x.add(7, other); got != api.ErrForm {
				t.Errorf("Add of a dead one's number = %d", got)
			}
		}
		x.hold(events...)
		x.compact()
		x.hold(events...)
		if x.add(7, second) != api.OK {
			t.Error("the number isn't free behind Compact")
		}
		x.hold(events...)
	}
}

// P14.1, P14.3: what is Never is live, and in no partition.
func TestNever(t *testing.T) {
	x := newPair(t)
	event := []api.Pair{number("a", 5), word("c", "x")}
	if x.add(3, never) != api.OK || x.add(9, api.Conj{Never: true, Pos: []api.Pred{}, Neg: []api.Pred{}}) != api.OK || x.add(4, made(t, "a {1} & a {2}")) != api.OK || x.p.Live() != 3 {
		t.Errorf("Live %d", x.p.Live())
	}
	x.hold(event)
	if x.p.Partition(3) != -1 || x.p.Partition(9) != -1 || len(x.p.Match(nil)) != 0 || len(x.p.Match(event)) != 0 || len(x.p.Trace(event).Lists) != 0 || len(x.p.Trace(event).Judged) != 0 {
		t.Error("one that is Never is to be seen")
	}
	for _, part := range []int{-1, 0, 1, 2} {
		if len(x.p.Posts(part, key.Zero())) != 0 {
			t.Errorf("Posts(%d, zero) = %v", part, x.p.Posts(part, key.Zero()))
		}
	}
	x.add(5, always)
	x.add(6, made(t, "a {5}"))
	x.hold(event)
	if x.drop(9, 3, 9) != 2 || x.p.Dead() != 2 || x.p.Live() != 3 {
		t.Errorf("Live %d, Dead %d", x.p.Live(), x.p.Dead())
	}
	x.hold(event)
	if x.compact() != 2 || x.add(3, made(t, "a {5}")) != api.OK {
		t.Error("one that was Never doesn't go")
	}
	x.hold(event)
}

// P14.1, P14.3: each shape of a conjunction: its partition, and the lists in which it stands.
func TestShapes(t *testing.T) {
	half := 1 << 31 // the index of the number 0 at level 0
	for _, c := range []struct {
		text  string
		part  int
		lists map[api.Key][]api.Post
	}{
		{`a {5}`, 1, map[api.Key][]api.Post{intKey("a", 5): {in(8)}}},
		{`a {5, -1, 9}`, 1, map[api.Key][]api.Post{intKey("a", -1): {in(8)}, intKey("a", 5): {in(8)}, intKey("a", 9): {in(8)}}},
		{`c {"x", "", "xy"}`, 1, map[api.Key][]api.Post{wordKey("c", ""): {in(8)}, wordKey("c", "x"): {in(8)}, wordKey("c", "xy"): {in(8)}}},
		{`a [1, 6]`, 1, map[api.Key][]api.Post{spanKey("a", 0, half+1): {in(8)}, spanKey("a", 1, half/2+1): {in(8)}, spanKey("a", 1, half/2+2): {in(8)}, spanKey("a", 0, half+6): {in(8)}}},
		{`a [-2147483648, 2147483647]`, 1, map[api.Key][]api.Post{spanKey("a", 32, 0): {in(8)}}},
		{`c "xy"*`, 1, map[api.Key][]api.Post{prefixKey("c", "xy"): {in(8)}}},
		{`c ""*`, 1, map[api.Key][]api.Post{prefixKey("c", ""): {in(8)}}},
		{`a {5} & b {5} & c "x"*`, 3, map[api.Key][]api.Post{intKey("a", 5): {in(8)}, intKey("b", 5): {in(8)}, prefixKey("c", "x"): {in(8)}}},
		{`!a {5}`, 0, map[api.Key][]api.Post{zeroKey: {in(8)}, intKey("a", 5): {out(8)}}},
		{`!a {5, 6} & !c "x"* & !a {6, 7} & !a [0, 7]`, 0, map[api.Key][]api.Post{zeroKey: {in(8)}, intKey("a", 5): {out(8)}, intKey("a", 6): {out(8)}, intKey("a", 7): {out(8)}, prefixKey("c", "x"): {out(8)}, spanKey("a", 3, 1<<28): {out(8)}}},
		{`!c ""*`, 0, map[api.Key][]api.Post{zeroKey: {in(8)}, prefixKey("c", ""): {out(8)}}},
		{`!a [5, 3]`, 0, map[api.Key][]api.Post{zeroKey: {in(8)}}},
		{`a {5, 6} & !a {6, 7}`, 1, map[api.Key][]api.Post{intKey("a", 5): {in(8)}, intKey("a", 6): {out(8), in(8)}, intKey("a", 7): {out(8)}}},
		{`a {5} & !a {5}`, 1, map[api.Key][]api.Post{intKey("a", 5): {out(8), in(8)}}},
		{`a [0, 7] & !a {5} & !c {"y"}`, 1, map[api.Key][]api.Post{spanKey("a", 3, 1<<28): {in(8)}, intKey("a", 5): {out(8)}, wordKey("c", "y"): {out(8)}}},
		{`c "x"* & !c "x"* & !c {"xy"} & a {5}`, 2, map[api.Key][]api.Post{prefixKey("c", "x"): {out(8), in(8)}, wordKey("c", "xy"): {out(8)}, intKey("a", 5): {in(8)}}},
		{`a {5} & !b {5}`, 1, map[api.Key][]api.Post{intKey("a", 5): {in(8)}, intKey("b", 5): {out(8)}}},
		{`a {1} & a {2}`, -1, nil},
	} {
		x := newPair(t)
		x.add(8, made(t, c.text))
		if got := x.p.Partition(8); got != c.part {
			t.Errorf("%s: Partition = %d", c.text, got)
		}
		for _, k := range append(x.s.keys(), key.Event([]api.Pair{number("a", 5), number("b", 5), word("c", "xy")})...) {
			for part := -1; part <= 4; part++ {
				var want []api.Post
				if part == c.part {
					want = c.lists[k]
				}
				if got := x.p.Posts(part, k); !slices.Equal(got, want) {
					t.Errorf("%s: Posts(%d, %v) = %v", c.text, part, k, got)
				}
			}
		}
		for k := range c.lists {
			if got := x.p.Posts(c.part, k); !slices.Equal(got, c.lists[k]) {
				t.Errorf("%s: Posts(%d, %v) = %v", c.text, c.part, k, got)
			}
		}
		x.hold([]api.Pair{number("a", 5)}, []api.Pair{number("a", 6), word("c", "x")}, []api.Pair{number("a", 5), number("b", 5), word("c", "xy")}, []api.Pair{word("c", "")})
	}
}

// P14.1, P14.3: a conjunction with no predicate at all holds always, and stands in the zero list alone.
func TestAlways(t *testing.T) {
	x := newPair(t)
	x.add(4, always)
	x.add(2, api.Conj{Pos: []api.Pred{}, Neg: []api.Pred{}})
	for _, event := range append(exampleEvents(), nil, []api.Pair{{}}, []api.Pair{{Name: "a"}}) {
		trace := x.p.Trace(event)
		if !slices.Equal(x.p.Match(event), []int{2, 4}) || !slices.Equal(trace.Lists, []api.Opened{opened(0, zeroKey, 2)}) || !slices.Equal(trace.Judged, []int{2, 4}) {
			t.Errorf("Match(%v) = %v, Trace %v", event, x.p.Match(event), trace)
		}
		x.hold(event)
	}
	if x.p.Partition(4) != 0 || !slices.Equal(x.p.Posts(0, key.Zero()), []api.Post{in(2), in(4)}) || len(x.p.Posts(1, key.Zero())) != 0 {
		t.Error("it doesn't stand in the zero list alone")
	}
}

// P14.1: Drop of numbers that aren't there, that are dead, that are told twice.
func TestDrop(t *testing.T) {
	x := example(t)
	events := exampleEvents()
	for _, c := range []struct {
		ids        []int
		want, live int
	}{
		{nil, 0, 3}, {[]int{}, 0, 3}, {[]int{4, 0, -1, math.MaxInt, math.MinInt}, 0, 3}, {[]int{2, 2, 2}, 1, 2}, {[]int{2}, 0, 2}, {[]int{9, 2, 3, 2, 3}, 1, 1}, {[]int{1, 2, 3}, 1, 0}, {[]int{1, 2, 3, 1}, 0, 0},
	} {
		if got := x.drop(c.ids...); got != c.want || x.p.Live() != c.live || x.p.Dead() != 3-c.live {
			t.Errorf("Drop(%v) = %d, Live %d, Dead %d", c.ids, got, x.p.Live(), x.p.Dead())
		}
		x.hold(events...)
	}
	if x.compact() != 3 || x.p.Live() != 0 || x.p.Dead() != 0 || x.drop(1, 2, 3) != 0 {
		t.Error("what was dropped doesn't go")
	}
	x.hold(events...)
}

// P14.1, P14.5: Compact with nothing dead, with some, with all, and twice; what else is told stays as it was.
func TestCompact(t *testing.T) {
	x := example(t)
	events := exampleEvents()
	x.add(4, never)
	x.add(5, made(t, "a {5} & !a [0, 7]"))
	if x.compact() != 0 || x.p.Live() != 5 {
		t.Error("nothing was dead")
	}
	x.hold(events...)
	for _, ids := range [][]int{{2}, {4, 1}, {}, {3, 5}} {
		x.drop(ids...)
		var matches [][]int
		var traces []api.Trace
		for _, event := range events {
			matches, traces = append(matches, x.p.Match(event)), append(traces, x.p.Trace(event))
		}
		live, list := x.p.Live(), x.p.Posts(0, intKey("a", 5))
		if got := x.compact(); got != len(ids) || x.p.Dead() != 0 || x.p.Live() != live {
			t.Errorf("Compact = %d, Live %d, Dead %d", got, x.p.Live(), x.p.Dead())
		}
		if x.compact() != 0 {
			t.Error("Compact takes something out twice")
		}
		for i, event := range events {
			if !slices.Equal(x.p.Match(event), matches[i]) || !sameTrace(x.p.Trace(event), traces[i]) {
				t.Errorf("Compact changes what is told of %v", event)
			}
		}
		if !slices.Equal(x.p.Posts(0, intKey("a", 5)), list) {
			t.Error("Compact changes a list")
		}
		x.hold(events...)
	}
}

// P14.1: what has no list has no posts: wherever it is asked.
func TestNoSuchList(t *testing.T) {
	x := example(t)
	for _, part := range []int{-1, math.MinInt, 3, 64, math.MaxInt, 1 << 32} {
		for _, k := range x.s.keys() {
			if got := x.p.Posts(part, k); len(got) != 0 {
				t.Errorf("Posts(%d, %v) = %v", part, k, got)
			}
		}
	}
	for _, k := range []api.Key{
		{}, {Attr: "a"}, {Kind: api.KeyZero, Attr: "a"}, {Kind: api.KeyZero, Int: 5}, {Kind: api.KeyZero, Word: "x"}, {Kind: api.KeyZero, Level: 1}, {Kind: -1, Attr: "a", Int: 5}, {Kind: 1 << 32, Attr: "a", Int: 5},
		intKey("a", 4), intKey("b", 5), intKey("", 5), intKey("A", 5), intKey("a", math.MinInt), {Kind: api.KeyInt, Attr: "a", Int: 5, Level: 1}, {Kind: api.KeyInt, Attr: "a", Int: 5, Word: "x"}, wordKey("a", "5"), wordKey("c", "x"), prefixKey("c", ""), prefixKey("c", "y"), prefixKey("c", "xy"), spanKey("a", 3, 1<<28+1), spanKey("a", 2, 1<<28),
	} {
		for part := range 4 {
			if got := x.p.Posts(part, k); len(got) != 0 {
				t.Errorf("Posts(%d, %v) = %v", part, k, got)
			}
		}
	}
	if len(x.p.Posts(1, key.Zero())) != 0 || len(x.p.Posts(2, key.Zero())) != 0 || len(x.p.Posts(-1, key.Zero())) != 0 || !slices.Equal(x.p.Posts(0, key.Zero()), []api.Post{in(3)}) {
		t.Error("the zero list is in partition 0 alone")
	}
	x.hold(exampleEvents()...)
}

// P14.1: the lists of one key in several partitions, with posts of many, in the order of layer 13.
func TestPostsInOrder(t *testing.T) {
	x := newPair(t)
	for _, id := range []int{9, 10, 2, 30, 1, 7, 100} {
		x.add(id, made(t, []string{"a {5}", "a {5} & !a {5}", `a {5} & c "x"*`, "a {4} & !a {5}"}[id%4]))
	}
	x.add(3, made(t, "!a {5}"))
	for part, want := range map[int][]api.Post{0: {out(3)}, 1: {out(1), in(1), out(7), out(9), in(9), in(100)}, 2: {in(2), in(10), in(30)}} {
		if got := x.p.Posts(part, intKey("a", 5)); !slices.Equal(got, want) {
			t.Errorf("Posts(%d) = %v", part, got)
		}
	}
	x.drop(9, 2, 3)
	for part, want := range map[int][]api.Post{0: nil, 1: {out(1), in(1), out(7), in(100)}, 2: {in(10), in(30)}} {
		if got := x.p.Posts(part, intKey("a", 5)); !slices.Equal(got, want) {
			t.Errorf("Posts(%d) = %v", part, got)
		}
	}
	x.hold([]api.Pair{number("a", 5)}, []api.Pair{number("a", 5), word("c", "x")})
}

// P14.1: parts have nothing to do with one another.
func TestSideBySide(t *testing.T) {
	one, two := example(t), newPair(t)
	if one.p == two.p || part.New() == part.New() {
		t.Fatal("two parts are one")
	}
	two.add(1, made(t, "a {5}"))
	two.add(4, made(t, `!c "x"*`))
	one.drop(2)
	one.hold(exampleEvents()...)
	two.hold(exampleEvents()...)
	two.drop(1, 2)
	one.compact()
	one.add(2, always)
	one.hold(exampleEvents()...)
	two.hold(exampleEvents()...)
	two.compact()
	two.add(2, made(t, "a [0, 7]"))
	one.hold(exampleEvents()...)
	two.hold(exampleEvents()...)
}
