package conj_test

import (
	"math"
	"slices"
	"strings"
	"testing"

	"trommel/api"
	"trommel/conj"
	"trommel/parse"
	"trommel/tree"
)

var longest = strings.Repeat("w", api.MaxWord)

func ints(attr string, xs ...int) api.Pred { return tree.Ints(attr, xs...).Pred }

func words(attr string, ws ...string) api.Pred { return tree.Words(attr, ws...).Pred }

func span(attr string, lo, hi int) api.Pred { return tree.Range(attr, lo, hi).Pred }

func prefix(attr, w string) api.Pred { return tree.Prefix(attr, w).Pred }

func yes(p api.Pred) api.Lit { return api.Lit{Pred: p} }

func not(p api.Pred) api.Lit { return api.Lit{Pred: p, Neg: true} }

func leaf(p api.Pred) api.Node { return api.Node{Op: api.OpPred, Pred: p} }

func node(op int, kids ...api.Node) api.Node { return api.Node{Op: op, Kids: kids} }

func number(name string, n int) api.Pair {
	return api.Pair{Name: name, Value: api.Value{Kind: api.KindInt, Int: n}}
}

func word(name, w string) api.Pair {
	return api.Pair{Name: name, Value: api.Value{Kind: api.KindWord, Word: w}}
}

func samePred(a, b api.Pred) bool { return tree.Same(leaf(a), leaf(b)) }

func sameConj(a, b api.Conj) bool {
	return a.Never == b.Never && slices.EqualFunc(a.Pos, b.Pos, samePred) && slices.EqualFunc(a.Neg, b.Neg, samePred)
}

func text(t *testing.T, s string) api.Node {
	t.Helper()
	n, _, e := parse.Parse(s)
	if e != api.OK {
		t.Fatalf("%q doesn't parse", s)
	}
	return n
}

// pred is a predicate by its text.
func pred(t *testing.T, s string) api.Pred {
	t.Helper()
	return text(t, s).Pred
}

// lits are literals by their texts, with a semicolon between.
func lits(t *testing.T, s string) []api.Lit {
	t.Helper()
	var out []api.Lit
	for _, one := range strings.Split(s, "; ") {
		if one != "" {
			out = append(out, api.Lit{Pred: pred(t, strings.TrimPrefix(one, "!")), Neg: one[0] == '!'})
		}
	}
	return out
}

// written is a conjunction as lits reads it; "never", if it is Never.
func written(c api.Conj) string {
	if c.Never && len(c.Pos)+len(c.Neg) == 0 {
		return "never"
	}
	var all []string
	for _, p := range c.Pos {
		s, _ := tree.Text(leaf(p))
		all = append(all, s)
	}
	for _, p := range c.Neg {
		s, _ := tree.Text(leaf(p))
		all = append(all, "!"+s)
	}
	return strings.Join(all, "; ")
}

func mustMake(t *testing.T, lits ...api.Lit) api.Conj {
	t.Helper()
	c, e := conj.Make(lits...)
	if e != api.OK {
		t.Fatalf("Make(%v): %d", lits, e)
	}
	return c
}

// badPreds are predicates out of form.
func badPreds() []api.Pred {
	return []api.Pred{
		{}, {Kind: api.PredInts, Attr: "a"}, {Kind: api.PredInts, Attr: "A", Ints: []int{1}}, {Kind: api.PredInts, Ints: []int{1}}, {Kind: api.PredInts, Attr: "a", Ints: make([]int, 65)},
		{Kind: api.PredInts, Attr: strings.Repeat("a", 33), Ints: []int{1}}, {Kind: api.PredInts, Attr: "a", Ints: []int{api.Most + 1}}, {Kind: api.PredInts, Attr: "a", Ints: []int{1, api.Least - 1}},
		{Kind: api.PredInts, Attr: "a", Ints: []int{1}, Words: []string{"x"}}, {Kind: api.PredInts, Attr: "a", Ints: []int{1}, Lo: 1}, {Kind: api.PredInts, Attr: "a", Ints: []int{1}, Hi: 1},
		{Kind: api.PredWords, Attr: "c"}, {Kind: api.PredWords, Attr: "c", Words: make([]string, 65)}, {Kind: api.PredWords, Attr: "c", Words: []string{"x", longest + "w"}}, {Kind: api.PredWords, Attr: "c", Words: []string{"x"}, Ints: []int{1}},
		{Kind: api.PredWords, Attr: "c", Words: []string{"x"}, Lo: -1}, {Kind: api.PredRange, Attr: "a", Lo: math.MinInt}, {Kind: api.PredRange, Attr: "a", Hi: api.Most + 1}, {Kind: api.PredRange, Attr: "a", Lo: api.Least - 1}, {Kind: api.PredRange, Attr: "a", Hi: 5, Ints: []int{1}},
		{Kind: api.PredRange, Attr: "a", Hi: 5, Words: []string{"x"}}, {Kind: api.PredRange, Attr: "", Hi: 5}, {Kind: api.PredPrefix, Attr: "c"}, {Kind: api.PredPrefix, Attr: "c", Words: []string{"x", "xy"}}, {Kind: api.PredPrefix, Attr: "c", Words: []string{longest + "w"}},
		{Kind: api.PredPrefix, Attr: "c", Words: []string{"x"}, Hi: 1}, {Kind: api.PredPrefix, Attr: "c", Words: []string{"x"}, Ints: []int{1}},
		{Kind: 0, Attr: "a", Ints: []int{1}}, {Kind: 5, Attr: "a", Ints: []int{1}}, {Kind: -1, Attr: "c", Words: []string{"x"}}, {Kind: 1 << 32, Attr: "a", Ints: []int{1}}, {Kind: math.MinInt, Attr: "a"},
	}
}

// pool are predicates of one attribute, of all kinds and shapes.
func pool(attr string) []api.Pred {
	return []api.Pred{
		ints(attr, 3), ints(attr, 3, 1, 5), ints(attr, 5, 5, 2, 5), ints(attr, 9, 0, 3), ints(attr, api.Most, api.Least), ints(attr, 0, -1),
		span(attr, 2, 9), span(attr, 1, 5), span(attr, 5, 9), span(attr, 3, 3), span(attr, 5, 3), span(attr, 0, 1), span(attr, api.Least, api.Most), span(attr, api.Least, 0), span(attr, 3, api.Most), span(attr, api.Most, api.Least),
		words(attr, "x"), words(attr, "xy", "x", "y", "x"), words(attr, "", "xyz", "0"), words(attr, "\xff", "\x00", longest),
		prefix(attr, ""), prefix(attr, "x"), prefix(attr, "xy"), prefix(attr, "y"), prefix(attr, longest), prefix(attr, "\xff"),
	}
}

// values are those that tell the pool's predicates apart, and some that are none.
func values() []api.Value {
	var out []api.Value
	for _, n := range []int{api.Least - 1, api.Least, api.Least + 1, -2, -1, 0, 1, 2, 3, 4, 5, 6, 8, 9, 10, api.Most - 1, api.Most, api.Most + 1} {
		out = append(out, api.Value{Kind: api.KindInt, Int: n})
	}
	for _, w := range []string{"", "0", "x", "xx", "xy", "xyz", "xz", "y", "yx", "\x00", "\xff", "\xff\xff", longest[1:], longest, longest + "w"} {
		out = append(out, api.Value{Kind: api.KindWord, Word: w})
	}
	return append(out, api.Value{}, api.Value{Kind: 3, Int: 3}, api.Value{Kind: api.KindInt, Int: 3, Word: "x"}, api.Value{Kind: api.KindWord, Word: "x", Int: 3})
}

// events say one of the values, alone or ahead of another, or nothing, of an attribute.
func events(attr string) [][]api.Pair {
	out := [][]api.Pair{nil, {number("z", 3), word("y", "x")}}
	for _, v := range values() {
		out = append(out, []api.Pair{{Name: attr, Value: v}}, []api.Pair{number("z", 7), {Name: attr, Value: v}, number(attr, 3), word(attr, "x")})
	}
	return out
}
