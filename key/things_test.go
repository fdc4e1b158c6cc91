package key_test

import (
	"math"
	"math/rand/v2"
	"strings"

	"trommel/api"
	"trommel/tree"
)

var longest = strings.Repeat("w", api.MaxWord)

func ints(attr string, xs ...int) api.Pred { return tree.Ints(attr, xs...).Pred }

func words(attr string, ws ...string) api.Pred { return tree.Words(attr, ws...).Pred }

func span(attr string, lo, hi int) api.Pred { return tree.Range(attr, lo, hi).Pred }

func prefix(attr, w string) api.Pred { return tree.Prefix(attr, w).Pred }

func number(name string, n int) api.Pair {
	return api.Pair{Name: name, Value: api.Value{Kind: api.KindInt, Int: n}}
}

func word(name, w string) api.Pair {
	return api.Pair{Name: name, Value: api.Value{Kind: api.KindWord, Word: w}}
}

func intKey(attr string, x int) api.Key { return api.Key{Kind: api.KeyInt, Attr: attr, Int: x} }

func wordKey(attr, w string) api.Key { return api.Key{Kind: api.KeyWord, Attr: attr, Word: w} }

func spanKey(attr string, level, index int) api.Key {
	return api.Key{Kind: api.KeySpan, Attr: attr, Level: level, Int: index}
}

func prefixKey(attr, w string) api.Key { return api.Key{Kind: api.KeyPrefix, Attr: attr, Word: w} }

// badPreds are predicates out of form.
func badPreds() []api.Pred {
	return []api.Pred{
		{}, {Kind: api.PredInts, Attr: "a"}, {Kind: api.PredInts, Attr: "A", Ints: []int{1}}, {Kind: api.PredInts, Ints: []int{1}}, {Kind: api.PredInts, Attr: "a", Ints: make([]int, 65)}, {Kind: api.PredInts, Attr: strings.Repeat("a", 33), Ints: []int{1}},
		{Kind: api.PredInts, Attr: "a", Ints: []int{3, api.Most + 1}}, {Kind: api.PredInts, Attr: "a", Ints: []int{api.Least - 1, 3}}, {Kind: api.PredInts, Attr: "a", Ints: []int{3}, Words: []string{"x"}}, {Kind: api.PredInts, Attr: "a", Ints: []int{3}, Lo: 1}, {Kind: api.PredInts, Attr: "a", Ints: []int{3}, Hi: 1},
		{Kind: api.PredWords, Attr: "a"}, {Kind: api.PredWords, Attr: "a", Words: make([]string, 65)}, {Kind: api.PredWords, Attr: "a", Words: []string{"x", longest + "w"}}, {Kind: api.PredWords, Attr: "a", Words: []string{"x"}, Ints: []int{1}}, {Kind: api.PredWords, Attr: "a", Words: []string{"x"}, Lo: -1},
		{Kind: api.PredRange, Attr: "a", Lo: math.MinInt}, {Kind: api.PredRange, Attr: "a", Hi: api.Most + 1}, {Kind: api.PredRange, Attr: "a", Lo: api.Least - 1, Hi: 9}, {Kind: api.PredRange, Attr: "a", Hi: 5, Ints: []int{1}}, {Kind: api.PredRange, Attr: "a", Hi: 5, Words: []string{"x"}}, {Kind: api.PredRange, Hi: 5},
		{Kind: api.PredPrefix, Attr: "a"}, {Kind: api.PredPrefix, Attr: "a", Words: []string{"x", "xy"}}, {Kind: api.PredPrefix, Attr: "a", Words: []string{longest + "w"}}, {Kind: api.PredPrefix, Attr: "a", Words: []string{"x"}, Hi: 1}, {Kind: api.PredPrefix, Attr: "a", Words: []string{"x"}, Ints: []int{1}},
		{Kind: 0, Attr: "a", Ints: []int{3}}, {Kind: 5, Attr: "a", Ints: []int{3}}, {Kind: -1, Attr: "a", Words: []string{"x"}}, {Kind: 1<<32 + 1, Attr: "a", Ints: []int{3}}, {Kind: math.MinInt, Attr: "a"},
	}
}

// pool are predicates of one attribute, of all kinds and shapes.
func pool(attr string) []api.Pred {
	return []api.Pred{
		ints(attr, 3), ints(attr, 3, 1, 5), ints(attr, 5, 5, 2, 5), ints(attr, 9, 0, 3), ints(attr, api.Most, api.Least), ints(attr, 0, -1),
		span(attr, 2, 9), span(attr, 1, 5), span(attr, 0, 7), span(attr, 3, 3), span(attr, 5, 3), span(attr, 0, 1), span(attr, api.Least, api.Most), span(attr, api.Least, 0), span(attr, 3, api.Most), span(attr, api.Most, api.Least),
		span(attr, api.Least+1, api.Most-1), span(attr, api.Least, api.Most-1), span(attr, api.Least+1, api.Most), span(attr, api.Least, api.Least), span(attr, api.Most, api.Most), span(attr, -1, 0), span(attr, -5, 6), span(attr, 0, api.Most),
		words(attr, "x"), words(attr, "xy", "x", "y", "x"), words(attr, "", "xyz", "0"), words(attr, "\xff", "\x00", longest),
		prefix(attr, ""), prefix(attr, "x"), prefix(attr, "xy"), prefix(attr, "y"), prefix(attr, longest), prefix(attr, longest[1:]), prefix(attr, "\xff"),
	}
}

// badValues are out of form.
func badValues() []api.Value {
	return []api.Value{
		{}, {Kind: api.KindInt, Int: api.Least - 1}, {Kind: api.KindInt, Int: api.Most + 1}, {Kind: api.KindInt, Int: math.MinInt}, {Kind: api.KindInt, Int: math.MaxInt}, {Kind: api.KindInt, Int: 1<<32 + 3}, {Kind: api.KindInt, Int: 3, Word: "x"},
		{Kind: api.KindWord, Word: longest + "w"}, {Kind: api.KindWord, Word: strings.Repeat("x", 1000)}, {Kind: api.KindWord, Word: "x", Int: 3}, {Kind: 0, Int: 3}, {Kind: 0, Word: "x"}, {Kind: 3, Int: 3}, {Kind: 3, Word: "x"}, {Kind: -1, Int: 3}, {Kind: 1<<32 + 1, Int: 3}, {Kind: math.MinInt},
	}
}

// goodValues are those that tell the pool's predicates apart.
func goodValues() []api.Value {
	var out []api.Value
	for _, n := range []int{api.Least, api.Least + 1, -6, -5, -2, -1, 0, 1, 2, 3, 4, 5, 6, 7, 8, 9, 10, api.Most - 1, api.Most} {
		out = append(out, api.Value{Kind: api.KindInt, Int: n})
	}
	for _, w := range []string{"", "0", "3", "x", "xx", "xy", "xyz", "xz", "y", "yx", "\x00", "\xff", "\xff\xff", longest[1:], longest, longest[1:] + "x"} {
		out = append(out, api.Value{Kind: api.KindWord, Word: w})
	}
	return out
}

// events say one of the values, alone, ahead of another or behind it, or nothing, of an attribute.
func events(attr string) [][]api.Pair {
	out := [][]api.Pair{nil, {}, {number("z", 3), word("y", "x")}}
	for _, v := range append(goodValues(), badValues()...) {
		p := api.Pair{Name: attr, Value: v}
		out = append(out, []api.Pair{p}, []api.Pair{number("z", 7), p, number(attr, 3), word(attr, "x")}, []api.Pair{word(attr, "xy"), p, number("0", 7)}, []api.Pair{{Name: attr, Value: badValues()[0]}, p})
	}
	return out
}

// someNumber is near an end, naught or a power of two, or anywhere.
func someNumber(chance *rand.Rand) int {
	var x int
	switch chance.IntN(5) {
	case 0:
		x = api.Least + chance.IntN(20)
	case 1:
		x = api.Most - chance.IntN(20)
	case 2:
		x = chance.IntN(40) - 20
	case 3:
		x = 1<<chance.IntN(31) + chance.IntN(5) - 2
	default:
		x = api.Least + chance.IntN(1<<32)
	}
	return min(x, api.Most)
}

func someWord(chance *rand.Rand) string {
	if chance.IntN(10) == 0 {
		return longest[:api.MaxWord-chance.IntN(3)]
	}
	w := ""
	for range chance.IntN(5) {
		w += string("xy\xff"[chance.IntN(3)])
	}
	return w
}

func somePred(chance *rand.Rand, attr string) api.Pred {
	var xs []int
	var ws []string
	for range 1 + chance.IntN(6) {
		xs, ws = append(xs, someNumber(chance)), append(ws, someWord(chance))
	}
	switch chance.IntN(4) {
	case 0:
		return ints(attr, xs...)
	case 1:
		return words(attr, ws...)
	case 2:
		return prefix(attr, ws[0])
	}
	return span(attr, someNumber(chance), someNumber(chance))
}

func somePair(chance *rand.Rand, name string) api.Pair {
	bad := badValues()
	switch chance.IntN(9) {
	case 0:
		return api.Pair{Name: name, Value: bad[chance.IntN(len(bad))]}
	case 1, 2, 3, 4:
		return number(name, someNumber(chance))
	}
	return word(name, someWord(chance))
}
