package dnf_test

import (
	"cmp"
	"math"
	"slices"
	"strconv"
	"strings"
	"testing"
	"unsafe"

	"trommel/api"
	"trommel/dnf"
	"trommel/eval"
	"trommel/parse"
	"trommel/push"
	"trommel/tree"
)

var (
	p = tree.Ints("a", 1, -2)
	q = tree.Range("a", -5, 1)
	r = tree.Prefix("c", "x")
	s = tree.Words("c", "x", "y")
)

func leaf(p api.Pred) api.Node { return api.Node{Op: api.OpPred, Pred: p} }

func node(op int, kids ...api.Node) api.Node { return api.Node{Op: op, Kids: kids} }

func number(name string, n int) api.Pair {
	return api.Pair{Name: name, Value: api.Value{Kind: api.KindInt, Int: n}}
}

func word(name, w string) api.Pair {
	return api.Pair{Name: name, Value: api.Value{Kind: api.KindWord, Word: w}}
}

func lit(n api.Node) api.Lit { return api.Lit{Pred: n.Pred} }

func not(n api.Node) api.Lit { return api.Lit{Pred: n.Pred, Neg: true} }

func sameLit(a, b api.Lit) bool { return a.Neg == b.Neg && tree.Same(leaf(a.Pred), leaf(b.Pred)) }

func sameConj(a, b []api.Lit) bool { return slices.EqualFunc(a, b, sameLit) }

func sameConjs(a, b [][]api.Lit) bool { return slices.EqualFunc(a, b, sameConj) }

func text(t *testing.T, s string) api.Node {
	t.Helper()
	n, _, e := parse.Parse(s)
	if e != api.OK {
		t.Fatalf("%q doesn't parse", s)
	}
	return n
}

func mustExpand(t *testing.T, n api.Node, most int) [][]api.Lit {
	t.Helper()
	conjs, e := dnf.Expand(n, most)
	if e != api.OK {
		t.Fatalf("Expand(%v, %d): %d", n, most, e)
	}
	return conjs
}

// refuse holds Expand to an error, beside which there is nothing.
func refuse(t *testing.T, n api.Node, most int, want api.Errno) {
	t.Helper()
	if conjs, e := dnf.Expand(n, most); e != want || len(conjs) != 0 {
		t.Errorf("Expand(%v, %d) = %v, %d, not %d", n, most, conjs, e, want)
	}
}

// joined are the nodes of each operation over kids of a list.
func joined(kids []api.Node) []api.Node {
	var out []api.Node
	for i, one := range kids {
		out = append(out, node(api.OpNot, one))
		for _, two := range kids {
			out = append(out, node(api.OpAnd, one, two), node(api.OpOr, one, two))
		}
		out = append(out, node(api.OpAnd, one, kids[0], kids[(i+1)%len(kids)]), node(api.OpOr, kids[0], one, kids[(i+2)%len(kids)]))
	}
	return out
}

// small are very many trees in form, of up to five levels.
func small() []api.Node {
	first := []api.Node{p, r}
	second := slices.Concat(first, joined(first))
	out := slices.Concat(second, joined(second))
	for _, n := range slices.Clone(out) {
		out = append(out, node(api.OpNot, n), node(api.OpAnd, s, node(api.OpNot, node(api.OpAnd, q, node(api.OpNot, n), s))))
	}
	return out
}

// events make now these, now those of the predicates true.
func events() [][]api.Pair {
	out := [][]api.Pair{nil, {word("a", "x")}, {{Name: "a"}, number("a", 1)}, {number("a", 1), number("a", 7)}, {number("c", 1), word("c", "x")}}
	for _, a := range []int{1, -2, 0, 9} {
		out = append(out, []api.Pair{number("a", a)})
		for _, c := range []string{"x", "y", "xx", ""} {
			out = append(out, []api.Pair{number("a", a), word("c", c)}, []api.Pair{word("c", c)})
		}
	}
	return out
}

// badPreds are predicates out of form.
func badPreds() []api.Pred {
	return []api.Pred{
		{}, {Kind: api.PredInts, Attr: "a"}, {Kind: api.PredInts, Attr: "A", Ints: []int{1}}, {Kind: api.PredInts, Attr: "", Ints: []int{1}}, {Kind: api.PredInts, Attr: "a", Ints: make([]int, 65)},
		{Kind: api.PredInts, Attr: "a", Ints: []int{api.Most + 1}}, {Kind: api.PredInts, Attr: "a", Ints: []int{1}, Words: []string{"x"}}, {Kind: api.PredInts, Attr: "a", Ints: []int{1}, Lo: 1},
		{Kind: api.PredWords, Attr: "c"}, {Kind: api.PredWords, Attr: "c", Words: []string{strings.Repeat("w", 65)}}, {Kind: api.PredWords, Attr: "c", Words: []string{"x"}, Ints: []int{1}},
		{Kind: api.PredRange, Attr: "a", Lo: math.MinInt}, {Kind: api.PredRange, Attr: "a", Ints: []int{1}}, {Kind: api.PredPrefix, Attr: "c"}, {Kind: api.PredPrefix, Attr: "c", Words: []string{"x", "y"}},
		{Kind: 0, Attr: "a", Ints: []int{1}}, {Kind: 5, Attr: "a", Ints: []int{1}}, {Kind: -1, Attr: "c", Words: []string{"x"}},
	}
}

// badTrees are trees out of form, the fault at the root or below it.
func badTrees() []api.Node {
	out := []api.Node{
		{}, node(api.OpNot), node(api.OpAnd), node(api.OpOr), node(api.OpAnd, p), node(api.OpOr, p), node(api.OpNot, p, q), {Pred: p.Pred}, {Op: 5, Pred: p.Pred}, {Op: -1, Kids: []api.Node{p, q}},
		{Op: api.OpPred, Pred: p.Pred, Kids: []api.Node{q}}, {Op: api.OpNot, Pred: p.Pred, Kids: []api.Node{p}}, {Op: api.OpAnd, Pred: api.Pred{Lo: 1}, Kids: []api.Node{p, q}},
	}
	for _, bad := range badPreds() {
		out = append(out, leaf(bad))
	}
	for _, bad := range slices.Clone(out) {
		out = append(out, node(api.OpNot, bad), node(api.OpAnd, p, bad), node(api.OpOr, bad, p), node(api.OpOr, p, node(api.OpNot, node(api.OpAnd, p, bad, q))))
	}
	return out
}

// P8.1: the chapter's examples.
func TestExamples(t *testing.T) {
	n := tree.And(tree.Or(p, q), tree.Not(tree.And(r, s)))
	want := [][]api.Lit{{lit(p), not(r)}, {lit(p), not(s)}, {lit(q), not(r)}, {lit(q), not(s)}}
	if got := mustExpand(t, n, 4); !sameConjs(got, want) {
		t.Errorf("Expand = %v", got)
	}
	refuse(t, n, 3, api.ErrTooWide)
	if got := mustExpand(t, tree.Not(tree.Or(p, q)), 1); !sameConjs(got, [][]api.Lit{{not(p), not(q)}}) {
		t.Errorf("Expand = %v", got)
	}
	if !dnf.Holds(nil) || dnf.Any(nil) || !dnf.Any(nil, nil) || !dnf.Any(nil, []api.Lit{}) {
		t.Error("of none")
	}
	if got, e := dnf.Tree([]api.Lit{lit(p)}); e != api.OK || !tree.Same(got, p) {
		t.Errorf("Tree = %v, %d", got, e)
	}
}

// P8.1: which conjunctions, in which order.
func TestExpand(t *testing.T) {
	for _, c := range []struct {
		text string
		want string
	}{
		{"a {1}", "1"}, {"!a {1}", "-1"}, {"!!a {1}", "1"}, {"!!!a {1}", "-1"},
		{"a {1} | a {2} | !a {3}", "1; 2; -3"}, {"a {1} & !a {2} & a {3}", "1 -2 3"}, {"a {1} & a {1}", "1 1"}, {"a {1} | a {1}", "1; 1"},
		{"!(a {1} & a {2})", "-1; -2"}, {"!(a {1} | a {2} & a {3})", "-1 -2; -1 -3"},
		{"(a {1} | a {2}) & (a {3} | a {4}) & (a {5} | a {6})", "1 3 5; 1 3 6; 1 4 5; 1 4 6; 2 3 5; 2 3 6; 2 4 5; 2 4 6"},
		{"(a {1} | a {2}) & a {9} & (a {3} | a {4} | a {5})", "1 9 3; 1 9 4; 1 9 5; 2 9 3; 2 9 4; 2 9 5"},
		{"(a {3} | a {4} | a {5}) & (a {1} | a {2})", "3 1; 3 2; 4 1; 4 2; 5 1; 5 2"},
		{"a {9} & (a {1} & a {2} | a {3}) & a {8}", "9 1 2 8; 9 3 8"},
		{"a {9} | (a {1} | a {2}) & (a {3} | a {4}) | a {8}", "9; 1 3; 1 4; 2 3; 2 4; 8"},
		{"(a {1} | a {2} & (a {3} | a {4})) & (a {5} | a {6})", "1 5; 1 6; 2 3 5; 2 3 6; 2 4 5; 2 4 6"},
		{"((a {1} | a {2}) & (a {3} | a {4})) & (a {5} | a {6})", "1 3 5; 1 3 6; 1 4 5; 1 4 6; 2 3 5; 2 3 6; 2 4 5; 2 4 6"},
		{"(a {1} | a {2}) & ((a {3} | a {4}) & (a {5} | a {6}))", "1 3 5; 1 3 6; 1 4 5; 1 4 6; 2 3 5; 2 3 6; 2 4 5; 2 4 6"},
		{"(a {1} | (a {2} | (a {3} | a {4}))) & a {5}", "1 5; 2 5; 3 5; 4 5"},
		{"!((a {1} & a {2} | a {3}) & (a {4} | !a {5}))", "-1 -3; -2 -3; -4 5"},
	} {
		if got := written(mustExpand(t, text(t, c.text), 8)); got != c.want {
			t.Errorf("Expand(%s) = %s, not %s", c.text, got, c.want)
		}
	}
}

// written are conjunctions by the first number of each predicate, a minus ahead where it mustn't hold.
func written(conjs [][]api.Lit) string {
	var all []string
	for _, lits := range conjs {
		var one []string
		for _, l := range lits {
			n := l.Ints[0]
			if l.Neg {
				n = -n
			}
			one = append(one, strconv.Itoa(n))
		}
		all = append(all, strings.Join(one, " "))
	}
	return strings.Join(all, "; ")
}

// wantConjs is Expand of a pushed tree as the chapter tells it, list by list.
func wantConjs(n api.Node) [][]api.Lit {
	switch n.Op {
	case api.OpPred:
		return [][]api.Lit{{lit(n)}}
	case api.OpNot:
		return [][]api.Lit{{not(n.Kids[0])}}
	case api.OpOr:
		var out [][]api.Lit
		for _, kid := range n.Kids {
			out = append(out, wantConjs(kid)...)
		}
		return out
	}
	if len(n.Kids) == 1 {
		return wantConjs(n.Kids[0])
	}
	var out [][]api.Lit
	for _, first := range wantConjs(n.Kids[0]) {
		for _, rest := range wantConjs(node(api.OpAnd, n.Kids[1:]...)) {
			out = append(out, slices.Concat(first, rest))
		}
	}
	return out
}

// P8.1, P8.2: Expand of many trees: which conjunctions, just as many as the width, and ErrTooWide just where that is above most.
func TestExpandByRecursion(t *testing.T) {
	for i, n := range small() {
		pushed, _ := push.Push(n)
		want := wantConjs(pushed)
		for most := 1; most <= api.MaxConj; most += 1 + i%7 {
			width, _ := push.Width(n, most)
			got, e := dnf.Expand(n, most)
			if len(want) > most && (e != api.ErrTooWide || len(got) != 0 || width != most+1) {
				t.Fatalf("Expand(%v, %d) = %v, %d", n, most, got, e)
			}
			if len(want) <= most && (e != api.OK || len(got) != width || !sameConjs(got, want)) {
				t.Fatalf("Expand(%v, %d) = %v, %d, not %v", n, most, got, e, want)
			}
		}
	}
}

// P8.1: widths that are just most and one above it.
func TestExpandEdges(t *testing.T) {
	for width := 2; width <= api.MaxConj+1; width++ {
		var kids []api.Node
		for i := range width {
			kids = append(kids, tree.Ints("a", i+1))
		}
		or, notAnd := node(api.OpOr, kids...), node(api.OpNot, node(api.OpAnd, kids...))
		for _, n := range []api.Node{or, notAnd, node(api.OpAnd, r, or, s)} {
			for most := 1; most <= api.MaxConj; most++ {
				if width > most {
					refuse(t, n, most, api.ErrTooWide)
				} else if got := mustExpand(t, n, most); len(got) != width {
					t.Errorf("Expand of %d with most %d gives %d", width, most, len(got))
				}
			}
		}
	}
	// Six kids of two, three of four, two of eight: just MaxConj.
	two := tree.Or(p, q)
	four, eight := tree.And(two, two), tree.And(two, two, two)
	for _, n := range []api.Node{tree.And(two, two, two, two, two, two), tree.And(four, four, four), tree.And(eight, eight), tree.Or(tree.And(eight, four), tree.And(four, eight))} {
		if got := mustExpand(t, n, 64); len(got) != 64 || !sameConjs(got, wantConjs(n)) {
			t.Errorf("Expand(%v) = %v", n, got)
		}
		refuse(t, n, 63, api.ErrTooWide)
		refuse(t, tree.Or(n, p), 64, api.ErrTooWide)
		refuse(t, tree.And(n, two), 64, api.ErrTooWide)
	}
	refuse(t, node(api.OpAnd, slices.Repeat([]api.Node{two}, 200)...), 64, api.ErrTooWide)
}

// P8.1: ErrForm comes ahead of ErrRange, this ahead of ErrTooWide.
func TestExpandErrors(t *testing.T) {
	for _, n := range badTrees() {
		for _, most := range []int{64, 1, 0, 65, -1} {
			refuse(t, n, most, api.ErrForm)
		}
	}
	for _, n := range []api.Node{p, tree.Not(p), tree.Or(p, q), node(api.OpOr, slices.Repeat([]api.Node{p}, 100)...)} {
		for _, most := range []int{0, -1, 65, 66, 100, 1 << 32, 1<<32 + 64, 1 << 62, math.MaxInt, math.MinInt} {
			refuse(t, n, most, api.ErrRange)
		}
	}
}

// P8.1: Holds and Any, under events that say much, little, or a name twice.
func TestHoldsAndAny(t *testing.T) {
	one, two := tree.Ints("a", 1), tree.Ints("a", 2)
	x := tree.Words("c", "x")
	for _, c := range []struct {
		event []api.Pair
		lits  []api.Lit
		want  bool
	}{
		{nil, nil, true}, {[]api.Pair{number("a", 1)}, []api.Lit{}, true},
		{nil, []api.Lit{lit(one)}, false}, {nil, []api.Lit{not(one)}, true}, {nil, []api.Lit{not(one), not(x)}, true}, {nil, []api.Lit{not(one), lit(x)}, false},
		{[]api.Pair{number("a", 1)}, []api.Lit{lit(one)}, true}, {[]api.Pair{number("a", 1)}, []api.Lit{not(one)}, false}, {[]api.Pair{number("a", 1)}, []api.Lit{lit(one), not(two)}, true},
		{[]api.Pair{number("a", 1)}, []api.Lit{not(two), lit(one), not(one)}, false}, {[]api.Pair{number("a", 1)}, []api.Lit{lit(one), lit(one), lit(two)}, false}, {[]api.Pair{number("a", 1)}, []api.Lit{lit(two), lit(one)}, false},
		{[]api.Pair{number("a", 1), word("c", "x")}, []api.Lit{lit(one), lit(x), not(two)}, true}, {[]api.Pair{number("a", 1), word("c", "y")}, []api.Lit{lit(one), lit(x)}, false},
		{[]api.Pair{number("a", 1), number("a", 2)}, []api.Lit{lit(one), not(two)}, true}, {[]api.Pair{number("a", 2), number("a", 1)}, []api.Lit{lit(one)}, false}, {[]api.Pair{number("a", 2), number("a", 1)}, []api.Lit{not(one), lit(two)}, true},
		{[]api.Pair{word("c", "x"), number("a", 1)}, []api.Lit{lit(one), lit(x)}, true}, {[]api.Pair{{Name: "a"}, number("a", 1)}, []api.Lit{lit(one)}, false}, {[]api.Pair{{Name: "a"}, number("a", 1)}, []api.Lit{not(one)}, true},
		{[]api.Pair{word("a", "1")}, []api.Lit{not(one), not(two)}, true},
	} {
		if got := dnf.Holds(c.event, c.lits...); got != c.want {
			t.Errorf("Holds(%v, %v) = %t", c.event, c.lits, got)
		}
		never := []api.Lit{lit(one), not(one)}
		for _, conjs := range [][][]api.Lit{{c.lits}, {never, c.lits}, {c.lits, never}, {never, c.lits, never, never}, {c.lits, c.lits}} {
			if got := dnf.Any(c.event, conjs...); got != c.want {
				t.Errorf("Any(%v, %v) = %t", c.event, conjs, got)
			}
		}
		if dnf.Any(c.event) || dnf.Any(c.event, [][]api.Lit{}...) || dnf.Any(c.event, never) || dnf.Any(c.event, never, never) || !dnf.Any(c.event, never, nil) {
			t.Errorf("Any of none, or of what never holds, of %v", c.event)
		}
	}
}

// P8.1: a predicate out of form doesn't hold, so what it isn't does.
func TestHoldsOutOfForm(t *testing.T) {
	for _, bad := range badPreds() {
		for _, event := range [][]api.Pair{nil, {number(bad.Attr, 1)}, {word(bad.Attr, "x")}, {number(bad.Attr, 0)}, {{Name: bad.Attr}}} {
			yes, no := api.Lit{Pred: bad}, api.Lit{Pred: bad, Neg: true}
			if dnf.Holds(event, yes) || !dnf.Holds(event, no) || dnf.Holds(event, no, yes) || !dnf.Holds(event, no, no) || dnf.Any(event, []api.Lit{yes}) || !dnf.Any(event, []api.Lit{yes}, []api.Lit{no}) {
				t.Errorf("%v holds of %v", bad, event)
			}
		}
	}
}

// P8.1: Holds and Any by eval.Holds, at all choices of few literals.
func TestHoldsByEval(t *testing.T) {
	few := []api.Lit{lit(p), not(p), lit(q), not(r), lit(s), not(s)}
	for _, event := range events() {
		good := func(l api.Lit) bool { return eval.Holds(l.Pred, event) != l.Neg }
		for _, a := range few {
			for _, b := range few {
				for _, c := range few {
					if got := dnf.Holds(event, a, b, c); got != (good(a) && good(b) && good(c)) {
						t.Errorf("Holds(%v, %v, %v, %v) = %t", event, a, b, c, got)
					}
					if got := dnf.Any(event, []api.Lit{a, b}, []api.Lit{c}); got != (good(a) && good(b) || good(c)) {
						t.Errorf("Any(%v, %v %v, %v) = %t", event, a, b, c, got)
					}
				}
			}
		}
	}
}

// P8.1: which tree Tree makes.
func TestTree(t *testing.T) {
	for _, c := range []struct {
		conjs [][]api.Lit
		want  api.Node
	}{
		{[][]api.Lit{{lit(p)}}, p}, {[][]api.Lit{{not(p)}}, tree.Not(p)}, {[][]api.Lit{{lit(p), not(q)}}, tree.And(p, tree.Not(q))}, {[][]api.Lit{{lit(p), lit(p)}}, tree.And(p, p)},
		{[][]api.Lit{{lit(p)}, {not(q)}}, tree.Or(p, tree.Not(q))}, {[][]api.Lit{{lit(p)}, {lit(p)}, {lit(p)}}, tree.Or(p, p, p)},
		{[][]api.Lit{{lit(p), lit(q), not(r)}, {lit(s)}, {not(q), lit(p)}}, tree.Or(tree.And(p, q, tree.Not(r)), s, tree.And(tree.Not(q), p))},
	} {
		if got, e := dnf.Tree(c.conjs...); e != api.OK || !tree.Same(got, c.want) || tree.Check(got) != api.OK {
			t.Errorf("Tree(%v) = %v, %d, not %v", c.conjs, got, e, c.want)
		}
	}
}

// P8.1: what Tree refuses: no conjunction, one of no literals, a predicate out of form, wherever it stands.
func TestTreeOutOfForm(t *testing.T) {
	good := []api.Lit{lit(p), not(q)}
	bad := [][][]api.Lit{nil, {}, {nil}, {{}}, {nil, nil}, {good, nil}, {nil, good}, {good, {}, good}, {good, good, good, {}}}
	for _, one := range badPreds() {
		for _, neg := range []bool{false, true} {
			l := api.Lit{Pred: one, Neg: neg}
			bad = append(bad, [][]api.Lit{{l}}, [][]api.Lit{{l, lit(p)}}, [][]api.Lit{{lit(p), l}}, [][]api.Lit{good, {l}}, [][]api.Lit{{l}, good}, [][]api.Lit{good, {not(p), lit(q), l}, good})
		}
	}
	for _, conjs := range bad {
		if got, e := dnf.Tree(conjs...); e != api.ErrForm || !tree.Same(got, api.Node{}) {
			t.Errorf("Tree(%v) = %v, %d", conjs, got, e)
		}
	}
}

// P8.2: an event makes the tree true just if it makes one of the conjunctions true.
func TestExpandKeepsTruth(t *testing.T) {
	list := events()
	count, all := 0, 0
	for _, n := range small() {
		conjs, e := dnf.Expand(n, api.MaxConj)
		if e != api.OK {
			continue
		}
		for _, event := range list {
			want := eval.Eval(n, event)
			if dnf.Any(event, conjs...) != want {
				t.Fatalf("of %v: the conjunctions of %v aren't %t", event, n, want)
			}
			all++
			if want {
				count++
			}
		}
	}
	if count < all/4 || count > all*3/4 {
		t.Errorf("%d of %d are true: too lopsided to tell much", count, all)
	}
}

// preds are the predicates of a tree.
func preds(n api.Node) []api.Node {
	if n.Op == api.OpPred {
		return []api.Node{n}
	}
	var out []api.Node
	for _, kid := range n.Kids {
		out = append(out, preds(kid)...)
	}
	return out
}

// P8.3: the conjunctions of Tree(conjs) are conjs; each literal is one of the tree's predicates.
func TestExpandOfTree(t *testing.T) {
	hold := func(conjs [][]api.Lit) {
		t.Helper()
		n, e := dnf.Tree(conjs...)
		if e != api.OK {
			t.Fatalf("Tree(%v): %d", conjs, e)
		}
		for most := max(len(conjs), 1); most <= api.MaxConj; most += 9 {
			if got := mustExpand(t, n, most); !sameConjs(got, conjs) {
				t.Fatalf("Expand(Tree(%v)) = %v", conjs, got)
			}
		}
		if len(conjs) > 1 {
			refuse(t, n, min(len(conjs)-1, api.MaxConj), api.ErrTooWide)
		}
	}
	few := []api.Lit{lit(p), not(p), not(r), lit(s)}
	for _, a := range few {
		for _, b := range few {
			hold([][]api.Lit{{a}, {b}})
			hold([][]api.Lit{{a, b}})
			hold([][]api.Lit{{a, b}, {b}, {b, a, a}})
		}
	}
	long := [][]api.Lit{}
	for i := range api.MaxConj + 1 {
		long = append(long, slices.Repeat([]api.Lit{few[i%4], {Pred: tree.Ints("n", i).Pred, Neg: i%3 == 0}}, 1+i%3))
		hold(long)
	}
	for _, n := range small() {
		own := preds(n)
		conjs, _ := dnf.Expand(n, api.MaxConj)
		for _, lits := range conjs {
			for _, l := range lits {
				if !slices.ContainsFunc(own, func(p api.Node) bool { return tree.Same(p, leaf(l.Pred)) }) {
					t.Fatalf("%v is no predicate of %v", l, n)
				}
			}
		}
	}
}

// Rule 1: trees that are very deep or very broad, conjunctions that are very long or very many.
func TestGreat(t *testing.T) {
	deep := p
	for range 1<<16 - 1 {
		deep = node(api.OpNot, deep)
	}
	if got := mustExpand(t, deep, 1); !sameConjs(got, [][]api.Lit{{not(p)}}) {
		t.Errorf("Expand of negations = %v", got)
	}
	left, right, ors := tree.Or(p, q), tree.Or(p, q), p
	for range 1<<16 - 2 {
		left, right = node(api.OpAnd, left, s), node(api.OpAnd, r, right)
	}
	if got := mustExpand(t, left, 2); len(got) != 2 || len(got[0]) != 1<<16-1 || !sameLit(got[0][0], lit(p)) || !sameLit(got[1][0], lit(q)) || !sameLit(got[1][1<<16-2], lit(s)) {
		t.Error("Expand of Ands nested at the left")
	}
	if got := mustExpand(t, right, 64); len(got) != 2 || len(got[1]) != 1<<16-1 || !sameLit(got[0][1<<16-2], lit(p)) || !sameLit(got[1][1<<16-2], lit(q)) || !sameLit(got[1][0], lit(r)) {
		t.Error("Expand of Ands nested at the right")
	}
	for range 1<<16 - 1 {
		ors = node(api.OpOr, ors, s)
	}
	refuse(t, ors, 64, api.ErrTooWide)
	broad := append(slices.Repeat([]api.Node{s}, 100000), tree.Or(p, q, r))
	if got := mustExpand(t, node(api.OpAnd, broad...), 3); len(got) != 3 || len(got[2]) != 100001 || !sameLit(got[2][100000], lit(r)) || !sameLit(got[1][99999], lit(s)) {
		t.Error("Expand of a broad And")
	}
	refuse(t, node(api.OpOr, broad...), 64, api.ErrTooWide)
	lits := slices.Repeat([]api.Lit{not(p)}, 100000)
	conjs := slices.Repeat([][]api.Lit{{lit(p)}}, 100000)
	event := []api.Pair{number("a", 1)}
	if !dnf.Holds(nil, lits...) || dnf.Holds(nil, append(lits, lit(p))...) || dnf.Any(nil, conjs...) || !dnf.Any(event, append(conjs, conjs[0])...) || !dnf.Any(nil, append(conjs, nil)...) {
		t.Error("Holds and Any of many")
	}
	if n, e := dnf.Tree(append(conjs, lits)...); e != api.OK || len(n.Kids) != 100001 || len(n.Kids[100000].Kids) != 100000 {
		t.Error("Tree of many")
	}
}

// block is where a list lies, its spare room too.
type block struct{ from, to uintptr }

func blockOf[T any](list []T) block {
	from := uintptr(unsafe.Pointer(unsafe.SliceData(list)))
	return block{from, from + uintptr(cap(list))*unsafe.Sizeof(*new(T))}
}

// treeBlocks are those of all lists of a tree.
func treeBlocks(n api.Node) []block {
	out := []block{blockOf(n.Ints), blockOf(n.Words), blockOf(n.Kids)}
	for _, kid := range n.Kids {
		out = append(out, treeBlocks(kid)...)
	}
	return out
}

// conjBlocks are those of all lists of conjunctions.
func conjBlocks(conjs [][]api.Lit) []block {
	out := []block{blockOf(conjs)}
	for _, lits := range conjs {
		out = append(out, blockOf(lits))
		for _, l := range lits {
			out = append(out, blockOf(l.Ints), blockOf(l.Words))
		}
	}
	return out
}

// holdApart tells of lists that share memory.
func holdApart(t *testing.T, all ...[]block) {
	t.Helper()
	found := slices.DeleteFunc(slices.Concat(all...), func(b block) bool { return b.from == b.to })
	slices.SortFunc(found, func(a, b block) int { return cmp.Compare(a.from, b.from) })
	for i := 1; i < len(found); i++ {
		if found[i].from < found[i-1].to {
			t.Error("two lists share memory")
		}
	}
}

// Rule 5: no two lists of what was handed in and of what Expand and Tree answered share memory, literal by literal.
func TestAnswersAreNew(t *testing.T) {
	for _, n := range []api.Node{
		p, tree.Not(s), tree.And(p, s, tree.Prefix("d", "y")), tree.And(tree.Or(p, s), tree.Not(tree.And(p, s)), tree.Or(s, r, q), tree.Ints("n", 4, 5)),
		tree.Or(tree.And(s, tree.Or(p, s), s), tree.Not(tree.Or(tree.And(p, r), s))),
	} {
		one, two := mustExpand(t, n, 64), mustExpand(t, n, 64)
		first, e := dnf.Tree(one...)
		second, f := dnf.Tree(one...)
		if e != api.OK || f != api.OK {
			t.Fatal(e, f)
		}
		holdApart(t, treeBlocks(n), conjBlocks(one), conjBlocks(two), treeBlocks(first), treeBlocks(second))
	}
	// One literal handed in at several places isn't one in what is answered.
	same := []api.Lit{lit(s), not(s), lit(s)}
	n, _ := dnf.Tree(same, same)
	holdApart(t, treeBlocks(n), []block{blockOf(same), blockOf(s.Words)})
	conjs := mustExpand(t, node(api.OpAnd, s, tree.Or(p, q), s), 2)
	conjs[0][0].Words[0] = "changed"
	conjs[0] = append(conjs[0], lit(p))
	if want := [][]api.Lit{{conjs[0][0], lit(p), lit(s), lit(p)}, {lit(s), lit(q), lit(s)}}; !sameConjs(conjs, want) || s.Words[0] != "x" {
		t.Errorf("written into one literal: %v", conjs)
	}
}

// Rule 5: what is handed in stays as it was, the room behind it too.
func TestHandedInIsLeft(t *testing.T) {
	ints, words := []int{5, 3, 1, 9}, []string{"y", "x", "ab", "z"}
	a, c := leaf(api.Pred{Kind: api.PredInts, Attr: "a", Ints: ints[:3]}), leaf(api.Pred{Kind: api.PredWords, Attr: "c", Words: words[:3]})
	kids := []api.Node{a, node(api.OpNot, c), tree.Ints("z", 7)}
	n := node(api.OpNot, api.Node{Op: api.OpAnd, Kids: kids[:2]})
	lits := []api.Lit{not(c), lit(a), lit(tree.Ints("z", 8))}
	conjs := [][]api.Lit{lits[:2], lits[1:2], lits}
	event := []api.Pair{word("c", "ab"), number("a", 5), number("a", 4), word("b", "q")}
	before, beforeKids, beforeEvent, beforeLits := tree.And(n), tree.Or(kids...), slices.Clone(event), slices.Clone(lits)
	got := mustExpand(t, n, 2)
	dnf.Holds(event[:3], lits[:2]...)
	dnf.Any(event[:3], conjs[:2]...)
	made, _ := dnf.Tree(conjs[:2]...)
	got[0] = append(got[0], lit(p))
	got[1][0].Words = append(got[1][0].Words, "more")
	got[1][0].Words[0], got[0][0].Ints[0] = "changed", 77
	made.Kids[0].Kids = append(made.Kids[0].Kids, p)
	made.Kids[1].Ints = append(made.Kids[1].Ints, 78)
	made.Kids[1].Ints[0] = 79
	if !slices.Equal(ints, []int{5, 3, 1, 9}) || !slices.Equal(words, []string{"y", "x", "ab", "z"}) || !slices.Equal(event, beforeEvent) || !sameConj(lits, beforeLits) ||
		!tree.Same(n, before) || !tree.Same(tree.Or(kids...), beforeKids) || len(conjs[0]) != 2 || len(conjs[1]) != 1 || len(conjs[2]) != 3 {
		t.Errorf("changed: %v, %v, %v, %v, %v, %v", ints, words, event, lits, n, kids)
	}
}
