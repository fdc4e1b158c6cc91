package key_test

import (
	"cmp"
	"math"
	"math/rand/v2"
	"slices"
	"strconv"
	"strings"
	"testing"
	"unsafe"

	"trommel/api"
	"trommel/eval"
	"trommel/key"
)

// P12.1: the chapter's examples.
func TestExamples(t *testing.T) {
	for _, c := range []struct {
		p    api.Pred
		want []api.Key
	}{
		{ints("a", 2, 1), []api.Key{{Kind: 1, Attr: "a", Int: 1}, {Kind: 1, Attr: "a", Int: 2}}}, {span("a", 0, 7), []api.Key{{Kind: 3, Attr: "a", Level: 3, Int: 1 << 28}}}, {span("a", 3, 3), []api.Key{{Kind: 1, Attr: "a", Int: 3}}},
		{span("a", 4, 3), nil}, {prefix("c", ""), []api.Key{{Kind: 4, Attr: "c"}}},
	} {
		if got := key.Of(c.p); !slices.Equal(got, c.want) {
			t.Errorf("Of(%v) = %v", c.p, got)
		}
	}
	want := []api.Key{{Kind: 2, Attr: "c", Word: "ab"}, {Kind: 4, Attr: "c"}, {Kind: 4, Attr: "c", Word: "a"}, {Kind: 4, Attr: "c", Word: "ab"}}
	if got := key.Event([]api.Pair{word("c", "ab")}); !slices.Equal(got, want) {
		t.Errorf("Event = %v", got)
	}
}

// P12.1: the key of the kind KeyZero has nothing else.
func TestZero(t *testing.T) {
	if got := key.Zero(); got != (api.Key{Kind: 5}) {
		t.Errorf("Zero() = %v", got)
	}
}

// P12.1: the keys of a predicate of each kind.
func TestOf(t *testing.T) {
	mid := 1 << 31
	for _, c := range []struct {
		p    api.Pred
		want []api.Key
	}{
		{ints("a", 3), []api.Key{intKey("a", 3)}}, {ints("a", 5, 5, -2, 5), []api.Key{intKey("a", -2), intKey("a", 5)}}, {ints("a", 10, 9), []api.Key{intKey("a", 9), intKey("a", 10)}}, {ints("a", api.Most, 0, api.Least), []api.Key{intKey("a", api.Least), intKey("a", 0), intKey("a", api.Most)}},
		{words("a", "x"), []api.Key{wordKey("a", "x")}}, {words("a", "y", "", "xy", "x", "y"), []api.Key{wordKey("a", ""), wordKey("a", "x"), wordKey("a", "xy"), wordKey("a", "y")}}, {words("a", "\xff", "é", "Z", "10", "9"), []api.Key{wordKey("a", "10"), wordKey("a", "9"), wordKey("a", "Z"), wordKey("a", "é"), wordKey("a", "\xff")}},
		{words("a", longest), []api.Key{wordKey("a", longest)}}, {prefix("a", "xy"), []api.Key{prefixKey("a", "xy")}}, {prefix("a", longest), []api.Key{prefixKey("a", longest)}}, {prefix("a", "\x00\xff"), []api.Key{prefixKey("a", "\x00\xff")}},
		{span("a", api.Least, api.Most), []api.Key{spanKey("a", 32, 0)}}, {span("a", api.Least, -1), []api.Key{spanKey("a", 31, 0)}}, {span("a", 0, api.Most), []api.Key{spanKey("a", 31, 1)}}, {span("a", 0, 1), []api.Key{spanKey("a", 1, mid>>1)}},
		{span("a", -1, 0), []api.Key{spanKey("a", 0, mid-1), spanKey("a", 0, mid)}}, {span("a", 1, 6), []api.Key{spanKey("a", 0, mid+1), spanKey("a", 0, mid+6), spanKey("a", 1, mid>>1+1), spanKey("a", 1, mid>>1+2)}}, {span("a", 0, 4), []api.Key{spanKey("a", 0, mid+4), spanKey("a", 2, mid>>2)}},
		{span("a", api.Least, api.Least), []api.Key{intKey("a", api.Least)}}, {span("a", api.Most, api.Most), []api.Key{intKey("a", api.Most)}}, {span("a", 0, 0), []api.Key{intKey("a", 0)}}, {span("a", 0, -1), nil}, {span("a", api.Most, api.Least), nil},
		{ints("a_9", 1), []api.Key{intKey("a_9", 1)}}, {ints(strings.Repeat("n", 32), 1), []api.Key{intKey(strings.Repeat("n", 32), 1)}},
	} {
		if got := key.Of(c.p); !slices.Equal(got, c.want) {
			t.Errorf("Of(%v) = %v, not %v", c.p, got, c.want)
		}
	}
}

// P12.1: a predicate out of form, and one that holds never, has no keys.
func TestOfNone(t *testing.T) {
	for _, p := range append(badPreds(), span("a", 5, 3), span("a", 4, 3), span("a", 1, -1)) {
		if got := key.Of(p); len(got) != 0 {
			t.Errorf("Of(%v) = %v", p, got)
		}
	}
}

// P12.1, P12.3: keys of very many predicates: as told, rising, none twice, few enough.
func TestOfMany(t *testing.T) {
	chance := rand.New(rand.NewPCG(12, 1))
	preds := append(pool("a"), badPreds()...)
	for range 3000 {
		preds = append(preds, somePred(chance, "a"))
	}
	for _, p := range preds {
		got := key.Of(p)
		if !slices.Equal(got, wantOf(p)) {
			t.Fatalf("Of(%v) = %v, not %v", p, got, wantOf(p))
		}
		holdRising(t, got)
		if len(got) > api.MaxSet || p.Kind == api.PredRange && len(got) > 62 {
			t.Errorf("Of(%v) has %d keys", p, len(got))
		}
	}
}

func holdRising(t *testing.T, keys []api.Key) {
	t.Helper()
	for i := 1; i < len(keys); i++ {
		if ahead(keys[i-1], keys[i]) != -1 {
			t.Errorf("%v is ahead of %v", keys[i-1], keys[i])
		}
	}
}

// P12.3: the most keys of each kind of predicate.
func TestOfMost(t *testing.T) {
	var xs, same []int
	var ws []string
	for i := range api.MaxSet {
		xs, ws, same = append(xs, -i), append(ws, strconv.Itoa(i)), append(same, 7)
	}
	for _, c := range []struct {
		p    api.Pred
		want int
	}{
		{ints("a", xs...), 64}, {words("a", ws...), 64}, {ints("a", same...), 1}, {span("a", api.Least+1, api.Most-1), 62}, {span("a", api.Least, api.Most-1), 32}, {span("a", api.Least+1, api.Most), 32}, {prefix("a", longest), 1}, {span("a", api.Least, api.Most), 1},
	} {
		got := key.Of(c.p)
		if len(got) != c.want {
			t.Errorf("Of(%v) has %d keys, not %d", c.p, len(got), c.want)
		}
		holdRising(t, got)
	}
}

// P12.1: the keys of an event's values, of each kind and at the ends.
func TestEventOfOne(t *testing.T) {
	for _, name := range []string{"a", "", "A", "\xff", "é", strings.Repeat("n", 1000)} {
		for _, v := range goodValues() {
			event := []api.Pair{{Name: name, Value: v}}
			if got := key.Event(event); !slices.Equal(got, wantEvent(event)) {
				t.Errorf("Event(%v) = %v", event, got)
			}
		}
		for _, v := range badValues() {
			if got := key.Event([]api.Pair{{Name: name, Value: v}}); len(got) != 0 {
				t.Errorf("Event of %v = %v", v, got)
			}
		}
	}
	for _, c := range []struct {
		x     int
		index func(level int) int
	}{
		{api.Least, func(int) int { return 0 }}, {api.Most, func(level int) int { return 1<<(32-level) - 1 }}, {0, func(level int) int { return 1 << 32 >> (level + 1) }},
	} {
		want := []api.Key{intKey("a", c.x)}
		for level := range 33 {
			want = append(want, spanKey("a", level, c.index(level)))
		}
		if got := key.Event([]api.Pair{number("a", c.x)}); !slices.Equal(got, want) {
			t.Errorf("Event of %d = %v", c.x, got)
		}
	}
	for _, c := range []struct {
		w    string
		want []api.Key
	}{
		{"", []api.Key{wordKey("c", ""), prefixKey("c", "")}}, {"\xff\x00", []api.Key{wordKey("c", "\xff\x00"), prefixKey("c", ""), prefixKey("c", "\xff"), prefixKey("c", "\xff\x00")}}, {"é", []api.Key{wordKey("c", "é"), prefixKey("c", ""), prefixKey("c", "\xc3"), prefixKey("c", "é")}},
	} {
		if got := key.Event([]api.Pair{word("c", c.w)}); !slices.Equal(got, c.want) {
			t.Errorf("Event of %q = %v", c.w, got)
		}
	}
}

// P12.1: events with names in any order, told twice, with a value out of form first or behind.
func TestEventOfMany(t *testing.T) {
	bad := api.Pair{Name: "c", Value: api.Value{Kind: api.KindWord, Word: longest + "w"}}
	x, y := []api.Key{wordKey("c", "x"), prefixKey("c", ""), prefixKey("c", "x")}, []api.Key{wordKey("c", "y"), prefixKey("c", ""), prefixKey("c", "y")}
	empty := []api.Key{wordKey("b", ""), prefixKey("b", "")}
	for _, c := range []struct {
		event []api.Pair
		want  []api.Key
	}{
		{nil, nil}, {[]api.Pair{}, nil}, {[]api.Pair{word("c", "x"), word("c", "y")}, x}, {[]api.Pair{word("c", "y"), word("c", "x")}, y}, {[]api.Pair{word("c", "x"), word("c", "x")}, x}, {[]api.Pair{word("c", "x"), bad}, x}, {[]api.Pair{bad, word("c", "x")}, nil},
		{[]api.Pair{word("c", "x"), number("c", 1)}, x}, {[]api.Pair{bad, word("c", "x"), word("b", "")}, empty}, {[]api.Pair{word("c", "x"), word("b", "")}, slices.Concat(empty, x)}, {[]api.Pair{word("b", ""), word("c", "x")}, slices.Concat(empty, x)}, {[]api.Pair{word("c", "y"), word("b", ""), word("c", "x"), bad, word("b", "z")}, slices.Concat(empty, y)},
		{[]api.Pair{{}, {Name: "b"}, word("c", "x"), word("b", "")}, x},
	} {
		if got := key.Event(c.event); !slices.Equal(got, c.want) {
			t.Errorf("Event(%v) = %v, not %v", c.event, got, c.want)
		}
	}
	mixed := []api.Pair{word("ab", "x"), number("b", 3), number("a", -3), word("", "y"), number("a", 9), number("B", api.Most), word("a\x00", ""), number("\xff", api.Least)}
	got := key.Event(mixed)
	if want := wantEvent(mixed); len(got) != 4*34+3+3+2 || !slices.Equal(got, want) {
		t.Errorf("Event(%v) = %v, not %v", mixed, got, want)
	}
}

// P12.1, P12.3: very many events: as told, rising, 34 keys a number, two more than its bytes a word.
func TestEventByChance(t *testing.T) {
	chance := rand.New(rand.NewPCG(12, 2))
	names := []string{"a", "b", "c", "ab", "", "\xff", "Z"}
	for range 3000 {
		var event []api.Pair
		for range chance.IntN(9) {
			event = append(event, somePair(chance, names[chance.IntN(len(names))]))
		}
		got := key.Event(event)
		if !slices.Equal(got, wantEvent(event)) {
			t.Fatalf("Event(%v) = %v", event, got)
		}
		holdRising(t, got)
		count := 0
		for _, name := range names {
			place := slices.IndexFunc(event, func(p api.Pair) bool { return p.Name == name })
			if place >= 0 && isNumber(event[place].Value) {
				count += 34
			}
			if place >= 0 && isWord(event[place].Value) {
				count += len(event[place].Word) + 2
			}
		}
		if len(got) != count {
			t.Fatalf("Event(%v) has %d keys, not %d", event, len(got), count)
		}
	}
}

// P12.3: how many keys numbers and words have, the longest word among them.
func TestEventCounts(t *testing.T) {
	for _, x := range []int{api.Least, -1, 0, 1, 77, api.Most} {
		if got := key.Event([]api.Pair{number("a", x)}); len(got) != 34 {
			t.Errorf("%d has %d keys", x, len(got))
		}
	}
	for length := range api.MaxWord + 1 {
		if got := key.Event([]api.Pair{word("a", longest[:length])}); len(got) != length+2 {
			t.Errorf("a word of %d bytes has %d keys", length, len(got))
		}
	}
}

// rising are keys, each behind all ahead of it, in form or not.
func rising() []api.Key {
	return []api.Key{
		{Kind: math.MinInt}, {Kind: -1}, {}, {Word: "x"}, {Int: 1}, {Level: 1}, {Kind: 1, Level: -1}, {Kind: 1}, key.Zero(), {Kind: api.KeyZero, Word: "x"}, {Kind: 6}, {Kind: math.MaxInt},
		{Attr: "\x00"}, {Attr: "A", Kind: 9}, {Attr: "a", Kind: math.MinInt}, {Attr: "a"}, {Attr: "a", Kind: 1, Level: math.MinInt, Int: 9, Word: "z"}, {Attr: "a", Kind: 1, Level: -1}, intKey("a", math.MinInt), intKey("a", api.Least), intKey("a", -10), intKey("a", -9), intKey("a", -1), intKey("a", 0), {Attr: "a", Kind: 1, Word: "\x00"}, {Attr: "a", Kind: 1, Word: "x"},
		intKey("a", 1), {Attr: "a", Kind: 1, Int: 1, Word: "x"}, intKey("a", 9), intKey("a", 10), intKey("a", api.Most), intKey("a", math.MaxInt), {Attr: "a", Kind: 1, Level: 1, Int: -5}, {Attr: "a", Kind: 1, Level: 1},
		{Attr: "a", Kind: 2, Int: -1, Word: "z"}, wordKey("a", ""), wordKey("a", "10"), wordKey("a", "9"), wordKey("a", "Z"), wordKey("a", "x"), wordKey("a", "x\x00"), wordKey("a", "xa"), wordKey("a", "y"), wordKey("a", "é"), wordKey("a", "\xff"), {Attr: "a", Kind: 2, Int: 1}, {Attr: "a", Kind: 2, Level: 1},
		spanKey("a", -1, 9), spanKey("a", 0, -1), spanKey("a", 0, 0), spanKey("a", 0, 9), spanKey("a", 0, 10), spanKey("a", 1, 0), spanKey("a", 2, 5), spanKey("a", 10, 1), spanKey("a", 32, 0), {Attr: "a", Kind: 3, Level: 32, Word: "x"}, spanKey("a", math.MaxInt, 0),
		prefixKey("a", ""), prefixKey("a", "x"), prefixKey("a", "xy"), {Attr: "a", Kind: 4, Int: 7}, {Attr: "a", Kind: 5}, {Attr: "a", Kind: 6}, intKey("a\x00", 0), intKey("a1", 0), intKey("aa", -1), intKey("b", -9), prefixKey("b", ""), intKey("é", 0), {Attr: "\xff", Kind: math.MinInt},
	}
}

// P12.1: keys in their order, in form or not.
func TestCompare(t *testing.T) {
	for i, a := range rising() {
		for j, b := range rising() {
			if got := key.Compare(a, b); got != cmp.Compare(i, j) {
				t.Errorf("Compare(%v, %v) = %d", a, b, got)
			}
		}
	}
	chance := rand.New(rand.NewPCG(12, 3))
	for range 20000 {
		a, b := handMade(chance), handMade(chance)
		if got := key.Compare(a, b); got != ahead(a, b) || got != -key.Compare(b, a) || (got == 0) != (a == b) {
			t.Fatalf("Compare(%v, %v) = %d", a, b, got)
		}
	}
}

// handMade is a key of few cells, of which its kind may not use all.
func handMade(chance *rand.Rand) api.Key {
	few := []string{"", "a", "ab", "\xff"}
	return api.Key{Attr: few[chance.IntN(3)], Kind: chance.IntN(4), Level: chance.IntN(3) - 1, Int: chance.IntN(3) - 1, Word: few[chance.IntN(4)]}
}

// P12.1: the keys of both lists: unsorted, told twice in one or in both, with cells that their kind doesn't use.
func TestShared(t *testing.T) {
	a, b, c := intKey("a", 1), wordKey("a", "x"), spanKey("b", 3, 7)
	odd := api.Key{Attr: "a", Kind: api.KeyInt, Level: 2, Int: 1, Word: "x"}
	none := api.Key{}
	for _, two := range []struct{ a, b, want []api.Key }{
		{nil, nil, nil}, {nil, []api.Key{a}, nil}, {[]api.Key{a}, nil, nil}, {[]api.Key{}, []api.Key{}, nil}, {[]api.Key{a}, []api.Key{a}, []api.Key{a}}, {[]api.Key{a}, []api.Key{b}, nil}, {[]api.Key{a, b, c}, []api.Key{a, b, c}, []api.Key{a, b, c}},
		{[]api.Key{c, b, a}, []api.Key{b, c, a}, []api.Key{a, b, c}}, {[]api.Key{a, a}, []api.Key{a}, []api.Key{a}}, {[]api.Key{a}, []api.Key{a, a}, []api.Key{a}}, {[]api.Key{b, a, b, a}, []api.Key{a, c, a, b, b}, []api.Key{a, b}}, {[]api.Key{a, a}, []api.Key{b, b}, nil},
		{[]api.Key{odd, a}, []api.Key{a}, []api.Key{a}}, {[]api.Key{odd}, []api.Key{a}, nil}, {[]api.Key{a}, []api.Key{odd}, nil}, {[]api.Key{odd, b}, []api.Key{a, odd, odd}, []api.Key{odd}}, {[]api.Key{odd, a}, []api.Key{odd, a}, []api.Key{a, odd}},
		{[]api.Key{none, key.Zero()}, []api.Key{key.Zero()}, []api.Key{key.Zero()}}, {[]api.Key{none}, []api.Key{none}, []api.Key{none}}, {[]api.Key{none}, []api.Key{key.Zero()}, nil}, {[]api.Key{{Attr: "a", Kind: 77}}, []api.Key{{Attr: "a", Kind: 77}}, []api.Key{{Attr: "a", Kind: 77}}},
	} {
		for _, got := range [][]api.Key{key.Shared(two.a, two.b), key.Shared(two.b, two.a)} {
			if !slices.Equal(got, two.want) {
				t.Errorf("Shared(%v, %v) = %v, not %v", two.a, two.b, got, two.want)
			}
		}
	}
}

// P12.1: very many lists of hand-made keys.
func TestSharedByChance(t *testing.T) {
	chance := rand.New(rand.NewPCG(12, 4))
	some := func() []api.Key {
		var out []api.Key
		for range chance.IntN(60) {
			out = append(out, handMade(chance))
			if chance.IntN(3) == 0 {
				out = append(out, out[chance.IntN(len(out))])
			}
		}
		return out
	}
	for range 2000 {
		a, b := some(), some()
		got := key.Shared(a, b)
		if !slices.Equal(got, wantShared(a, b)) {
			t.Fatalf("Shared(%v, %v) = %v", a, b, got)
		}
		holdRising(t, got)
	}
}

// holdMeaning holds that a predicate holds of an event just if they share a key, and then just one.
func holdMeaning(t *testing.T, p api.Pred, event []api.Pair) {
	t.Helper()
	got, want := key.Shared(key.Of(p), key.Event(event)), 0
	if eval.Holds(p, event) {
		want = 1
	}
	if len(got) != want {
		t.Fatalf("%v and %v share %v", p, event, got)
	}
}

// P12.2: predicates of all shapes, out of form too, and events that say one value, several, or none of their attribute.
func TestHoldsJustIfShared(t *testing.T) {
	all := slices.Concat(events("a"), events("b"))
	for _, p := range slices.Concat(pool("a"), badPreds()) {
		for _, event := range all {
			holdMeaning(t, p, event)
		}
	}
}

// P12.2: very many predicates, at numbers beside their ends and members, at words beside theirs.
func TestHoldsJustIfSharedByChance(t *testing.T) {
	chance := rand.New(rand.NewPCG(12, 5))
	for range 3000 {
		p := somePred(chance, "a")
		near := []api.Pair{somePair(chance, "a")}
		for _, x := range append(slices.Clone(p.Ints), p.Lo, p.Hi, p.Lo+(p.Hi-p.Lo)/2) {
			near = append(near, number("a", x), number("a", x-1), number("a", x+1))
		}
		for _, w := range p.Words {
			near = append(near, word("a", w), word("a", w+"x"), word("a", w[:len(w)/2]))
		}
		for _, pair := range near {
			holdMeaning(t, p, []api.Pair{pair})
			holdMeaning(t, p, []api.Pair{number("b", 3), pair, somePair(chance, "a"), somePair(chance, "")})
		}
	}
}

// P12.1, P12.3: events and lists far longer than any schema allows.
func TestGreat(t *testing.T) {
	var event []api.Pair
	for i := range 100000 {
		event = append(event, word("n"+strconv.Itoa(i%50000), strconv.Itoa(i/50000)))
	}
	slices.Reverse(event[:50000])
	keys := key.Event(event)
	if len(keys) != 50000*3 || !slices.IsSortedFunc(keys, ahead) {
		t.Errorf("Event has %d keys", len(keys))
	}
	// The first fifty thousand say 0, those behind them 1.
	if place := slices.IndexFunc(keys, func(k api.Key) bool { return k.Word == "1" }); place >= 0 {
		t.Errorf("%v is of a pair that isn't the first", keys[place])
	}
	down := slices.Clone(keys)
	slices.Reverse(down)
	if got := key.Shared(append(down, keys...), append(keys[1000:], key.Zero())); !slices.Equal(got, keys[1000:]) {
		t.Errorf("Shared has %d keys", len(got))
	}
	same := slices.Repeat([]api.Pair{number("a", 3)}, 200000)
	if got := key.Event(same); len(got) != 34 {
		t.Errorf("Event has %d keys", len(got))
	}
}

// block is where a list lies, its spare room too.
type block struct{ from, to uintptr }

func blockOf[T any](list []T) block {
	from := uintptr(unsafe.Pointer(unsafe.SliceData(list)))
	return block{from, from + uintptr(cap(list))*unsafe.Sizeof(*new(T))}
}

// holdApart tells of lists that share memory.
func holdApart(t *testing.T, all ...block) {
	t.Helper()
	found := slices.DeleteFunc(slices.Clone(all), func(b block) bool { return b.from == b.to })
	slices.SortFunc(found, func(a, b block) int { return cmp.Compare(a.from, b.from) })
	for i := 1; i < len(found); i++ {
		if found[i].from < found[i-1].to {
			t.Error("two lists share memory")
		}
	}
}

// Rule 5: what is answered is new memory.
func TestAnswersAreNew(t *testing.T) {
	for _, p := range pool("a") {
		holdApart(t, blockOf(p.Ints), blockOf(p.Words), blockOf(key.Of(p)), blockOf(key.Of(p)))
	}
	event := []api.Pair{word("c", "ab"), number("a", 3)}
	one, two := key.Event(event), key.Event(event)
	holdApart(t, blockOf(event), blockOf(one), blockOf(two))
	want := slices.Clone(one)
	for _, lists := range [][2][]api.Key{{one, one}, {one, two}, {one, nil}, {one[:1], two}, {nil, nil}, {one, one[3:]}} {
		a, b := lists[0], lists[1]
		first, second := key.Shared(a, b), key.Shared(b, a)
		holdApart(t, blockOf(one), blockOf(first), blockOf(second))
		holdApart(t, blockOf(two), blockOf(first), blockOf(second))
		first = append(first, key.Zero())
		for i := range first[:cap(first)] {
			first[:cap(first)][i] = key.Zero()
		}
		if !slices.Equal(one, want) || !slices.Equal(two, want) || slices.Contains(second, key.Zero()) {
			t.Error("written into one list, seen in another")
		}
	}
	for i := range one[:cap(one)] {
		one[:cap(one)][i] = api.Key{}
	}
	if !slices.Equal(two, want) || !slices.Equal(key.Event(event), want) {
		t.Error("written into one list, seen in another")
	}
}

// spare is a list with room behind it that holds something.
func spare[T any](list []T, behind T) []T {
	return slices.Concat(list, []T{behind, behind, behind})[:len(list)]
}

// Rule 5: what is handed in stays as it was, the spare room behind the lists too.
func TestHandedInIsLeft(t *testing.T) {
	numbers, texts := spare([]int{3, 1, 3, 2}, 77), spare([]string{"y", "x", "y"}, "spare")
	key.Of(ints("a", 3, 1, 3, 2))
	key.Of(api.Pred{Kind: api.PredInts, Attr: "a", Ints: numbers})
	key.Of(api.Pred{Kind: api.PredWords, Attr: "a", Words: texts})
	key.Of(api.Pred{Kind: api.PredPrefix, Attr: "a", Words: texts[:1]})
	if !slices.Equal(numbers[:7], []int{3, 1, 3, 2, 77, 77, 77}) || !slices.Equal(texts[:6], []string{"y", "x", "y", "spare", "spare", "spare"}) {
		t.Errorf("members are now %v, %q", numbers[:7], texts[:6])
	}
	pairs := []api.Pair{word("c", "x"), number("a", 3), word("c", "y"), {Name: "b"}, number("a", 4)}
	event := spare(pairs, number("spare", 1))
	key.Event(event)
	if !slices.Equal(event, pairs) || event[:8][5] != number("spare", 1) || event[:8][7] != number("spare", 1) {
		t.Errorf("the event is now %v", event[:8])
	}
	keys := []api.Key{wordKey("c", "x"), intKey("a", 3), wordKey("c", "x"), key.Zero(), intKey("a", 1)}
	for _, other := range [][]api.Key{nil, {intKey("a", 3)}, keys} {
		a, b := spare(keys, prefixKey("spare", "")), spare(other, prefixKey("spare", ""))
		key.Shared(a, b)
		key.Shared(b, a)
		if !slices.Equal(a, keys) || !slices.Equal(b, other) {
			t.Errorf("the lists are now %v, %v", a, b)
		}
		for _, k := range append(slices.Clone(a[len(a):len(a)+3]), b[len(b):len(b)+3]...) {
			if k != prefixKey("spare", "") {
				t.Errorf("behind a list is now %v", k)
			}
		}
	}
}
