package eval_test

import (
	"math"
	"slices"
	"strings"
	"testing"

	"trommel/api"
	"trommel/eval"
	"trommel/parse"
	"trommel/tree"
)

func number(name string, n int) api.Pair {
	return api.Pair{Name: name, Value: api.Value{Kind: api.KindInt, Int: n}}
}

func word(name, w string) api.Pair {
	return api.Pair{Name: name, Value: api.Value{Kind: api.KindWord, Word: w}}
}

func leaf(p api.Pred) api.Node { return api.Node{Op: api.OpPred, Pred: p} }

func node(op int, kids ...api.Node) api.Node { return api.Node{Op: op, Kids: kids} }

func text(t *testing.T, s string) api.Node {
	t.Helper()
	n, _, e := parse.Parse(s)
	if e != api.OK {
		t.Fatalf("%q doesn't parse", s)
	}
	return n
}

// P6.1: the chapter's and the document's examples.
func TestExamples(t *testing.T) {
	for _, c := range []struct {
		event []api.Pair
		text  string
		want  bool
	}{
		{[]api.Pair{number("a", 1)}, `a {1, 2} & !c "x"*`, true},
		{[]api.Pair{number("a", 2), word("c", "y")}, `a {1, 2} & !c "x"*`, true},
		{[]api.Pair{number("a", 1), word("c", "xy")}, `a {1, 2} & !c "x"*`, false},
		{[]api.Pair{word("c", "y")}, `a {1, 2} & !c "x"*`, false},
		{[]api.Pair{number("b", 9)}, "!a {1}", true},
		{[]api.Pair{number("a", 1)}, "!a {1}", false},
		{nil, "!a {1}", true}, {nil, "a {1}", false}, {nil, "!!a {1}", false}, {[]api.Pair{}, `!c ""*`, true},
		{nil, "a {1} | !a {1}", true}, {nil, "a {1} & !a {1}", false},
	} {
		if got := eval.Eval(text(t, c.text), c.event); got != c.want {
			t.Errorf("Eval(%s, %v) = %t", c.text, c.event, got)
		}
	}
	event := []api.Pair{number("a", 5), word("c", "ab")}
	for s, want := range map[string]bool{
		"a {1, 5}": true, "a [5, 9]": true, `c "a"*`: true, `c ""*`: true, `c {"ab"}`: true, "!b {0}": true,
		"a [9, 5]": false, "b {0}": false, `c {"a"}`: false, `!c "ab"*`: false,
	} {
		if got := eval.Eval(text(t, s), event); got != want {
			t.Errorf("Eval(%s) = %t", s, got)
		}
	}
	if got := eval.Which(event, text(t, "a {5}"), text(t, "a {6}"), text(t, "!a {6}")); !slices.Equal(got, []int{0, 2}) {
		t.Errorf("Which = %v", got)
	}
}

// P6.1: Holds, of each kind of predicates, at its edges.
func TestHolds(t *testing.T) {
	full, long := strings.Repeat("w", 64), strings.Repeat("w", 63)
	set := make([]int, 64)
	words := make([]string, 64)
	for i := range set {
		set[i], words[i] = i*3, strings.Repeat("v", i+1)
	}
	for _, c := range []struct {
		p       api.Node
		yes, no []api.Pair
	}{
		{tree.Ints("a", 5, 1, 5), []api.Pair{number("a", 5), number("a", 1)}, []api.Pair{number("a", 0), number("a", 2), number("a", -5), number("b", 5), word("a", "5"), word("a", "")}},
		{tree.Ints("a", 0), []api.Pair{number("a", 0)}, []api.Pair{word("a", ""), word("a", "0"), word("a", "x"), number("a", 1), number("aa", 0), number("", 0), number("A", 0)}},
		{tree.Ints("a", api.Least, api.Most), []api.Pair{number("a", api.Least), number("a", api.Most)}, []api.Pair{number("a", api.Least+1), number("a", api.Most-1), number("a", -1), number("a", 0)}},
		{tree.Ints("a", set...), []api.Pair{number("a", 0), number("a", 3), number("a", 189)}, []api.Pair{number("a", 1), number("a", 188), number("a", 192)}},
		{tree.Words("a", "x", "", "yy"), []api.Pair{word("a", "x"), word("a", ""), word("a", "yy")}, []api.Pair{word("a", "y"), word("a", "xx"), word("a", "x\x00"), word("a", "X"), number("a", 0), word("b", "x")}},
		{tree.Words("a", ""), []api.Pair{word("a", "")}, []api.Pair{number("a", 0), word("a", " "), word("a", "\x00")}},
		{tree.Words("a", full), []api.Pair{word("a", full)}, []api.Pair{word("a", long)}},
		{tree.Words("a", words...), []api.Pair{word("a", "v"), word("a", words[63])}, []api.Pair{word("a", ""), word("a", "w")}},
		{tree.Range("a", -3, 7), []api.Pair{number("a", -3), number("a", 0), number("a", 7)}, []api.Pair{number("a", -4), number("a", 8), word("a", ""), word("a", "0"), number("b", 0)}},
		{tree.Range("a", 4, 4), []api.Pair{number("a", 4)}, []api.Pair{number("a", 3), number("a", 5)}},
		{tree.Range("a", 5, 4), nil, []api.Pair{number("a", 3), number("a", 4), number("a", 5), number("a", 6)}},
		{tree.Range("a", api.Most, api.Least), nil, []api.Pair{number("a", api.Most), number("a", api.Least), number("a", 0)}},
		{tree.Range("a", api.Least, api.Most), []api.Pair{number("a", api.Most), number("a", api.Least), number("a", 0)}, []api.Pair{word("a", "x"), word("a", "")}},
		{tree.Prefix("a", "ab"), []api.Pair{word("a", "ab"), word("a", "abc"), word("a", "ab\x00")}, []api.Pair{word("a", "a"), word("a", ""), word("a", "cab"), word("a", "aB"), number("a", 0), word("b", "ab")}},
		{tree.Prefix("a", ""), []api.Pair{word("a", ""), word("a", "x"), word("a", full)}, []api.Pair{number("a", 0), number("a", 5), word("b", "")}},
		{tree.Prefix("a", full), []api.Pair{word("a", full)}, []api.Pair{word("a", long)}},
		{tree.Prefix("a", "\xff"), []api.Pair{word("a", "\xff\xfe")}, []api.Pair{word("a", "\xfe"), word("a", "ÿ")}},
	} {
		for want, pairs := range map[bool][]api.Pair{true: c.yes, false: c.no} {
			for _, pair := range pairs {
				event := []api.Pair{pair}
				if eval.Holds(c.p.Pred, event) != want || eval.Eval(c.p, event) != want || eval.Eval(tree.Not(c.p), event) == want {
					t.Errorf("%v of %v isn't %t", c.p.Pred, event, want)
				}
			}
		}
		if eval.Holds(c.p.Pred, nil) || eval.Holds(c.p.Pred, []api.Pair{number("b", 0), word("z", "")}) {
			t.Errorf("%v holds of an event that says nothing of a", c.p.Pred)
		}
	}
}

// nearlyGood are predicates out of form, which would hold of a=0 or of a="" if their form weren't asked for.
func nearlyGood() []api.Pred {
	members := make([]int, 65)
	words := make([]string, 65)
	return []api.Pred{
		{}, {Attr: "a"}, {Kind: 5, Attr: "a"}, {Kind: -1, Attr: "a"}, {Attr: "a", Ints: []int{0}}, {Attr: "a", Words: []string{""}},
		{Kind: api.PredInts, Attr: "a", Ints: members}, {Kind: api.PredWords, Attr: "a", Words: words},
		{Kind: api.PredInts, Attr: "a", Ints: []int{0, api.Most + 1}}, {Kind: api.PredInts, Attr: "a", Ints: []int{math.MinInt, 0}},
		{Kind: api.PredInts, Attr: "a", Ints: []int{0}, Words: []string{""}}, {Kind: api.PredInts, Attr: "a", Ints: []int{0}, Lo: 1}, {Kind: api.PredInts, Attr: "a", Ints: []int{0}, Hi: 1},
		{Kind: api.PredWords, Attr: "a", Words: []string{"", strings.Repeat("w", 65)}}, {Kind: api.PredWords, Attr: "a", Words: []string{""}, Ints: []int{0}}, {Kind: api.PredWords, Attr: "a", Words: []string{""}, Hi: 1},
		{Kind: api.PredRange, Attr: "a", Lo: api.Least - 1}, {Kind: api.PredRange, Attr: "a", Hi: api.Most + 1}, {Kind: api.PredRange, Attr: "a", Lo: math.MinInt, Hi: math.MaxInt},
		{Kind: api.PredRange, Attr: "a", Ints: []int{0}}, {Kind: api.PredRange, Attr: "a", Words: []string{""}},
		{Kind: api.PredPrefix, Attr: "a", Words: []string{"", ""}}, {Kind: api.PredPrefix, Attr: "a", Words: []string{"", "x"}}, {Kind: api.PredPrefix, Attr: "a", Words: []string{""}, Ints: []int{0}}, {Kind: api.PredPrefix, Attr: "a", Words: []string{""}, Lo: 1},
		{Kind: api.PredInts, Attr: "a"}, {Kind: api.PredWords, Attr: "a"}, {Kind: api.PredPrefix, Attr: "a"}, {Kind: api.PredPrefix, Attr: "a", Words: []string{}},
		{Kind: api.PredInts, Attr: "", Ints: []int{0}}, {Kind: api.PredInts, Attr: "A", Ints: []int{0}}, {Kind: api.PredRange, Attr: "9"}, {Kind: api.PredPrefix, Attr: strings.Repeat("n", 33), Words: []string{""}},
	}
}

// P6.1: a predicate out of form doesn't hold, whatever the event says.
func TestPredsOutOfForm(t *testing.T) {
	for _, p := range nearlyGood() {
		for _, event := range [][]api.Pair{nil, {number(p.Attr, 0)}, {word(p.Attr, "")}, {{Name: p.Attr}}} {
			if eval.Holds(p, event) || eval.Eval(leaf(p), event) || eval.Eval(node(api.OpNot, leaf(p)), event) {
				t.Errorf("%v isn't false of %v", p, event)
			}
		}
	}
}

// P6.1: a tree out of form is false, whatever stands beside the fault.
func TestTreesOutOfForm(t *testing.T) {
	yes := tree.Ints("a", 0)
	bad := []api.Node{
		{}, {Pred: yes.Pred}, {Op: 5, Pred: yes.Pred}, {Op: -1, Kids: []api.Node{yes, yes}}, {Op: math.MaxInt},
		{Op: api.OpPred, Pred: yes.Pred, Kids: []api.Node{yes}},
		node(api.OpNot), node(api.OpNot, tree.Not(yes), tree.Not(yes)), node(api.OpAnd), node(api.OpOr), node(api.OpAnd, yes), node(api.OpOr, yes),
		{Op: api.OpNot, Pred: yes.Pred, Kids: []api.Node{tree.Not(yes)}}, {Op: api.OpAnd, Pred: api.Pred{Lo: 1}, Kids: []api.Node{yes, yes}}, {Op: api.OpOr, Pred: api.Pred{Attr: "a"}, Kids: []api.Node{yes, yes}},
	}
	for _, p := range nearlyGood() {
		bad = append(bad, leaf(p))
	}
	event := []api.Pair{number("a", 0)}
	for _, n := range bad {
		for _, whole := range []api.Node{
			n, node(api.OpNot, n), node(api.OpOr, yes, n), node(api.OpOr, n, yes), node(api.OpAnd, yes, node(api.OpNot, n)), node(api.OpOr, yes, node(api.OpAnd, tree.Not(yes), n)), node(api.OpNot, node(api.OpNot, node(api.OpOr, yes, yes, n))),
		} {
			if eval.Eval(whole, event) || eval.Eval(whole, nil) {
				t.Errorf("%v isn't false", whole)
			}
			if got := eval.Which(event, yes, whole, yes); !slices.Equal(got, []int{0, 2}) {
				t.Errorf("Which of %v = %v", whole, got)
			}
		}
	}
}

// P6.1: a value out of form makes every predicate of its attribute false.
func TestValuesOutOfForm(t *testing.T) {
	full := strings.Repeat("w", 65)
	for _, v := range []api.Value{
		{}, {Kind: 3}, {Kind: -1}, {Kind: math.MaxInt}, {Int: 5}, {Word: "x"},
		{Kind: api.KindInt, Int: api.Most + 1}, {Kind: api.KindInt, Int: api.Least - 1}, {Kind: api.KindInt, Int: math.MaxInt}, {Kind: api.KindInt, Int: math.MinInt},
		{Kind: api.KindInt, Int: 5, Word: "x"}, {Kind: api.KindInt, Word: "x"}, {Kind: api.KindInt, Int: 1 << 32},
		{Kind: api.KindWord, Int: 5, Word: "x"}, {Kind: api.KindWord, Int: -1}, {Kind: api.KindWord, Word: full}, {Kind: api.KindWord, Int: 1},
	} {
		event := []api.Pair{{Name: "a", Value: v}}
		for _, p := range []api.Node{
			tree.Ints("a", 5, 0, api.Most, api.Least), tree.Range("a", api.Least, api.Most), tree.Words("a", "x", "", full[1:]), tree.Prefix("a", ""), tree.Prefix("a", "x"), tree.Prefix("a", "w"),
		} {
			if eval.Holds(p.Pred, event) || eval.Eval(p, event) || !eval.Eval(tree.Not(p), event) {
				t.Errorf("%v holds of %v", p.Pred, v)
			}
		}
	}
}

// P6.1: of an event with a name twice the first pair counts, though it be of another kind or out of form.
func TestNameTwice(t *testing.T) {
	ints, words := tree.Ints("a", 1), tree.Words("a", "x")
	other := number("b", 1)
	for _, c := range []struct {
		event      []api.Pair
		one, wordX bool
	}{
		{[]api.Pair{number("a", 1), number("a", 2)}, true, false},
		{[]api.Pair{number("a", 2), number("a", 1)}, false, false},
		{[]api.Pair{other, number("a", 1), other, number("a", 2), other}, true, false},
		{[]api.Pair{other, number("a", 2), other, number("a", 1)}, false, false},
		{[]api.Pair{number("a", 1), word("a", "x")}, true, false},
		{[]api.Pair{word("a", "x"), number("a", 1)}, false, true},
		{[]api.Pair{{Name: "a"}, number("a", 1), word("a", "x")}, false, false},
		{[]api.Pair{number("a", api.Most+1), number("a", 1)}, false, false},
		{[]api.Pair{number("a", 1), {Name: "a"}}, true, false},
		{[]api.Pair{number("z", 1), number("b", 1), word("a", "x"), word("a", "x")}, false, true},
	} {
		if eval.Holds(ints.Pred, c.event) != c.one || eval.Eval(ints, c.event) != c.one || eval.Eval(tree.Not(ints), c.event) == c.one {
			t.Errorf("a {1} of %v isn't %t", c.event, c.one)
		}
		if eval.Holds(words.Pred, c.event) != c.wordX || eval.Eval(words, c.event) != c.wordX {
			t.Errorf("a {\"x\"} of %v isn't %t", c.event, c.wordX)
		}
	}
}

// events are some that say little, much, or what they shouldn't.
func events() [][]api.Pair {
	out := [][]api.Pair{nil}
	values := map[string][]api.Pair{
		"a": {number("a", 0), number("a", 5), number("a", 9), word("a", "ab"), {Name: "a"}},
		"c": {word("c", ""), word("c", "ab"), number("c", 0), word("c", strings.Repeat("w", 65))},
	}
	for _, a := range values["a"] {
		out = append(out, []api.Pair{a})
		for _, c := range values["c"] {
			out = append(out, []api.Pair{a, c}, []api.Pair{c, a}, []api.Pair{a, c, number("a", 5)}, []api.Pair{number("b", 5), c, word("c", "ab")})
		}
	}
	return out
}

// predicates are some of which the events make now these, now those true.
func predicates() []api.Node {
	return []api.Node{tree.Ints("a", 0, 5), tree.Range("a", 5, 9), tree.Range("a", 9, 5), tree.Words("c", "ab", ""), tree.Prefix("c", "a"), tree.Ints("b", 5)}
}

// small are trees in form over the predicates, of up to three levels, without too many.
func small() []api.Node {
	out := predicates()
	for _, one := range predicates() {
		out = append(out, tree.Not(one))
		for _, two := range predicates()[:4] {
			out = append(out, tree.And(one, two), tree.Or(two, one), tree.And(two, tree.Not(one)), tree.Or(one, two, one))
		}
	}
	return out
}

// truths tells of each event whether it makes a tree true: what Holds tells of the predicates, joined for all events at once.
func truths(n api.Node, list [][]api.Pair) []bool {
	out := make([]bool, len(list))
	for i, event := range list {
		if n.Op == api.OpPred {
			out[i] = eval.Holds(n.Pred, event)
		}
	}
	if n.Op == api.OpAnd {
		out = slices.Repeat([]bool{true}, len(list))
	}
	for _, kid := range n.Kids {
		for i, isTrue := range truths(kid, list) {
			switch n.Op {
			case api.OpNot:
				out[i] = !isTrue
			case api.OpAnd:
				out[i] = out[i] && isTrue
			case api.OpOr:
				out[i] = out[i] || isTrue
			}
		}
	}
	return out
}

// P6.1: Eval by its operations, and Which, at many trees and events.
func TestEvalAndWhich(t *testing.T) {
	trees, list := small(), events()
	for _, one := range small() {
		for _, two := range predicates() {
			trees = append(trees, tree.Not(one), tree.And(one, tree.Not(tree.Or(two, one)), one), tree.Or(tree.And(one, two), tree.Not(tree.Not(two)), tree.Not(one)))
		}
	}
	want := make([][]int, len(list))
	count := 0
	for place, n := range trees {
		for i, isTrue := range truths(n, list) {
			if eval.Eval(n, list[i]) != isTrue {
				t.Fatalf("Eval(%v, %v) isn't %t", n, list[i], isTrue)
			}
			if isTrue {
				want[i] = append(want[i], place)
				count++
			}
		}
	}
	if all := len(trees) * len(list); count < all/4 || count > all*3/4 {
		t.Errorf("%d of %d are true: too lopsided to tell much", count, all)
	}
	for i, event := range list {
		if got := eval.Which(event, trees...); !slices.Equal(got, want[i]) {
			t.Errorf("Which(%v) = %v, not %v", event, got, want[i])
		}
	}
}

// P6.1: Which of no nodes, of one, of the same one several times.
func TestWhich(t *testing.T) {
	yes, no := tree.Ints("a", 1), tree.Ints("a", 2)
	event := []api.Pair{number("a", 1)}
	for _, c := range []struct {
		nodes []api.Node
		want  []int
	}{
		{nil, nil}, {[]api.Node{}, nil}, {[]api.Node{no}, nil}, {[]api.Node{yes}, []int{0}}, {[]api.Node{no, no, no}, nil}, {[]api.Node{yes, yes, yes}, []int{0, 1, 2}}, {[]api.Node{no, {}, yes, no, yes}, []int{2, 4}},
	} {
		if got := eval.Which(event, c.nodes...); !slices.Equal(got, c.want) {
			t.Errorf("Which(%v) = %v, not %v", c.nodes, got, c.want)
		}
	}
	if got := eval.Which(nil); len(got) != 0 {
		t.Errorf("Which() = %v", got)
	}
}

// P6.2: the laws of not, and, or.
func TestLaws(t *testing.T) {
	list := events()
	same := func(one, two api.Node) {
		t.Helper()
		for _, event := range list {
			if eval.Eval(one, event) != eval.Eval(two, event) {
				t.Fatalf("of %v: %v isn't as %v", event, one, two)
			}
		}
	}
	few := slices.Concat(predicates(), []api.Node{tree.Not(tree.Prefix("c", "a")), tree.Or(tree.Ints("a", 0), tree.Words("c", "ab"))})
	for _, a := range small() {
		for _, event := range list {
			if eval.Eval(tree.Not(a), event) == eval.Eval(a, event) {
				t.Errorf("of %v: %v is as its negation", event, a)
			}
		}
		for _, b := range few {
			same(tree.And(a, b), tree.Not(tree.Or(tree.Not(a), tree.Not(b))))
			same(tree.Or(a, b), tree.Not(tree.And(tree.Not(a), tree.Not(b))))
			same(tree.And(a, b), tree.And(b, a))
			same(tree.Or(a, b), tree.Or(b, a))
			same(tree.And(a, b), tree.And(a, b, a))
			same(tree.Or(a, b), tree.Or(b, a, b))
			for _, c := range few {
				same(tree.And(a, tree.Or(b, c)), tree.Or(tree.And(a, b), tree.And(a, c)))
			}
		}
		same(tree.And(a, a), a)
		same(tree.Or(a, a), a)
	}
	for _, a := range few {
		for _, b := range few {
			for _, c := range few {
				same(tree.And(a, b, c), tree.And(c, a, b))
				same(tree.Or(a, b, c), tree.Or(c, b, a))
			}
		}
	}
}

// P6.3: pairs of names that the tree doesn't have change nothing, wherever they stand.
func TestOtherNames(t *testing.T) {
	others := []api.Pair{number("z", 5), word("aa", "ab"), number("", 5), number("A", 5), word("a ", "ab"), {Name: "cc"}, {Name: "c\x00", Value: api.Value{Kind: 9}}, word("b", strings.Repeat("w", 99))}
	for _, n := range small() {
		text, _ := tree.Text(n)
		if strings.Contains(text, "b {") {
			continue
		}
		for _, event := range events() {
			want := eval.Eval(n, event)
			for at := range len(event) + 1 {
				for _, other := range others {
					if more := slices.Insert(slices.Clone(event), at, other); eval.Eval(n, more) != want {
						t.Errorf("Eval(%s) of %v isn't as that of %v", text, more, event)
					}
				}
				if more := slices.Insert(slices.Clone(event), at, others...); eval.Eval(n, more) != want {
					t.Errorf("Eval(%s) of %v isn't as that of %v", text, more, event)
				}
			}
		}
	}
}

// Rule 1: trees that are very deep or very broad, events that are very long.
func TestGreatTrees(t *testing.T) {
	yes, no := tree.Ints("a", 1), tree.Ints("a", 2)
	event := []api.Pair{number("a", 1)}
	deep := yes
	for range 1<<16 - 1 {
		deep = node(api.OpNot, deep)
	}
	if eval.Eval(deep, event) || !eval.Eval(deep, nil) {
		t.Error("a tree of an odd number of negations")
	}
	if got := eval.Which(event, deep, node(api.OpNot, deep.Kids[0].Kids[0]), deep.Kids[0]); !slices.Equal(got, []int{1, 2}) {
		t.Errorf("Which = %v", got)
	}
	broad := slices.Repeat([]api.Node{no}, 100000)
	if eval.Eval(node(api.OpOr, broad...), event) || !eval.Eval(node(api.OpOr, append(broad, yes)...), event) {
		t.Error("a broad Or")
	}
	broad = slices.Repeat([]api.Node{yes}, 100000)
	if !eval.Eval(node(api.OpAnd, broad...), event) || eval.Eval(node(api.OpAnd, append(broad, no)...), event) {
		t.Error("a broad And")
	}
	long := append(slices.Repeat([]api.Pair{number("b", 1)}, 1000000), event...)
	if !eval.Eval(tree.And(yes, tree.Ints("b", 1)), long) || !eval.Holds(yes.Pred, long) {
		t.Error("a long event")
	}
}

// Rule 5: what is handed in stays as it was, the room behind it too; what Which answers is new.
func TestHandedInIsLeft(t *testing.T) {
	ints, words := []int{5, 3, 1, 9}, []string{"y", "x", "ab", "z"}
	kids := []api.Node{leaf(api.Pred{Kind: api.PredInts, Attr: "a", Ints: ints[:3]}), leaf(api.Pred{Kind: api.PredWords, Attr: "c", Words: words[:3]}), tree.Ints("z", 7)}
	nodes := []api.Node{node(api.OpAnd, kids[:2]...), tree.Not(kids[0]), kids[1], tree.Ints("z", 8)}
	nodes[0].Kids = kids[:2]
	event := []api.Pair{word("c", "ab"), number("a", 5), number("a", 4), word("b", "q")}
	before, beforeKids, beforeEvent := tree.Or(nodes...), tree.Or(kids...), slices.Clone(event)
	eval.Holds(kids[0].Pred, event[:3])
	eval.Holds(kids[1].Pred, event[:3])
	eval.Eval(nodes[0], event[:3])
	first := eval.Which(event[:3], nodes[:3]...)
	second := eval.Which(event[:3], nodes[:3]...)
	if !slices.Equal(first, []int{0, 2}) || !slices.Equal(second, first) {
		t.Errorf("Which = %v, %v", first, second)
	}
	_ = append(first, 666)
	clear(first[:cap(first)])
	if !slices.Equal(second, []int{0, 2}) || !slices.Equal(eval.Which(event[:3], nodes[:3]...), second) {
		t.Errorf("two answers share memory: %v", second)
	}
	if !slices.Equal(ints, []int{5, 3, 1, 9}) || !slices.Equal(words, []string{"y", "x", "ab", "z"}) || !slices.Equal(event, beforeEvent) ||
		!tree.Same(tree.Or(nodes...), before) || !tree.Same(tree.Or(kids...), beforeKids) {
		t.Errorf("changed: %v, %v, %v, %v, %v", ints, words, event, nodes, kids)
	}
}
