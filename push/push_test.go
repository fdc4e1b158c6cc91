package push_test

import (
	"cmp"
	"math"
	"math/big"
	"slices"
	"strings"
	"testing"
	"unsafe"

	"trommel/api"
	"trommel/eval"
	"trommel/parse"
	"trommel/push"
	"trommel/tree"
)

var (
	p = tree.Ints("a", 1, -2)
	q = tree.Range("a", -5, 1)
	r = tree.Prefix("c", "x")
	s = tree.Words("c", "x", "y")
)

func leaf(p api.Pred) api.Node { return api.Node{Op: api.OpPred, Pred: p} }

func node(op int, kids ...api.Node) api.Node { return api.Node{Op: op, Kids: kids} }

func text(t *testing.T, s string) api.Node {
	t.Helper()
	n, _, e := parse.Parse(s)
	if e != api.OK {
		t.Fatalf("%q doesn't parse", s)
	}
	return n
}

func mustPush(t *testing.T, n api.Node) api.Node {
	t.Helper()
	pushed, e := push.Push(n)
	if e != api.OK {
		t.Fatalf("Push(%v): %d", n, e)
	}
	return pushed
}

func mustWidth(t *testing.T, n api.Node, most int) int {
	t.Helper()
	width, e := push.Width(n, most)
	if e != api.OK {
		t.Fatalf("Width(%v, %d): %d", n, most, e)
	}
	return width
}

// joined are the nodes of each operation over kids of a list.
func joined(kids []api.Node) []api.Node {
	var out []api.Node
	for i, one := range kids {
		out = append(out, node(api.OpNot, one))
		for _, two := range kids {
			out = append(out, node(api.OpAnd, one, two), node(api.OpOr, one, two))
		}
		out = append(out, node(api.OpAnd, one, kids[0], kids[(i+1)%len(kids)]), node(api.OpOr, kids[0], one, kids[(i+2)%len(kids)]))
	}
	return out
}

// small are very many trees in form, of up to five levels.
func small() []api.Node {
	first := []api.Node{p, r}
	second := slices.Concat(first, joined(first))
	out := slices.Concat(second, joined(second))
	for _, n := range slices.Clone(out) {
		out = append(out, node(api.OpNot, n), node(api.OpNot, node(api.OpNot, n)), node(api.OpNot, node(api.OpOr, q, node(api.OpNot, n), s)))
	}
	return out
}

// badTrees are trees out of form, the fault at the root or below it.
func badTrees() []api.Node {
	out := []api.Node{
		{}, {Op: api.OpPred}, node(api.OpNot), node(api.OpAnd), node(api.OpOr), node(api.OpAnd, p), node(api.OpOr, p), node(api.OpNot, p, q),
		{Pred: p.Pred}, {Op: 5, Pred: p.Pred}, {Op: -1, Kids: []api.Node{p, q}}, {Op: math.MaxInt, Kids: []api.Node{p}}, {Op: math.MinInt},
		{Op: api.OpPred, Pred: p.Pred, Kids: []api.Node{q}}, {Op: api.OpNot, Pred: p.Pred, Kids: []api.Node{p}},
		{Op: api.OpAnd, Pred: api.Pred{Lo: 1}, Kids: []api.Node{p, q}}, {Op: api.OpOr, Pred: api.Pred{Attr: "a"}, Kids: []api.Node{p, q}},
		tree.Ints("a"), tree.Ints("A", 1), tree.Ints("a", make([]int, 65)...), tree.Ints("a", api.Most+1), tree.Range("a", math.MinInt, 0), tree.Words("a", strings.Repeat("w", 65)), tree.Prefix("", "x"),
		leaf(api.Pred{Kind: api.PredPrefix, Attr: "a", Words: []string{"x", "y"}}), leaf(api.Pred{Kind: 7, Attr: "a"}),
	}
	for _, bad := range slices.Clone(out) {
		out = append(out, node(api.OpNot, bad), node(api.OpNot, node(api.OpNot, bad)), node(api.OpAnd, p, bad), node(api.OpOr, bad, p), node(api.OpOr, p, node(api.OpNot, node(api.OpAnd, p, bad, q))))
	}
	return out
}

// P7.1: the chapter's examples.
func TestExamples(t *testing.T) {
	n := text(t, "!(a {1} & !(b {1} | c {1}))")
	a, b, c := tree.Ints("a", 1), tree.Ints("b", 1), tree.Ints("c", 1)
	if got := mustPush(t, n); !tree.Same(got, tree.Or(tree.Not(a), tree.Or(b, c))) {
		t.Errorf("Push = %v", got)
	}
	if got := mustWidth(t, n, 64); got != 3 {
		t.Errorf("Width = %d", got)
	}
	if got := mustPush(t, tree.Not(tree.Not(a))); !tree.Same(got, a) {
		t.Errorf("Push(!!a) = %v", got)
	}
	wide := text(t, "(a {1} | b {1}) & (b {1} | c {1}) & (a {1} | c {1})")
	for _, c := range [][2]int{{64, 8}, {9, 8}, {8, 8}, {7, 8}, {6, 7}, {5, 6}, {1, 2}} {
		if got := mustWidth(t, wide, c[0]); got != c[1] {
			t.Errorf("Width(%d) = %d", c[0], got)
		}
	}
	// The document's own, in its ten examples.
	if got := mustWidth(t, text(t, `a {1, 2} & !c "x"*`), 1); got != 1 {
		t.Errorf("Width = %d", got)
	}
	if got := mustWidth(t, text(t, "(a {1} | b {2}) & (a {3} | b {4})"), 64); got != 4 {
		t.Errorf("Width = %d", got)
	}
}

// P7.1: the numbers that the chapter and the limits name.
func TestSumAndProduct(t *testing.T) {
	const top = 1 << 62
	for _, c := range []struct {
		most    int
		widths  []int
		sum     int
		product int
	}{
		{10, []int{4, 7}, 11, 11}, {10, nil, 0, 1}, {10, []int{4, 3}, 7, 11}, {10, []int{0, 99}, 11, 0}, {0, nil, 0, 1}, {10, []int{}, 0, 1},
		{10, []int{4, 6}, 10, 11}, {10, []int{5, 2}, 7, 10}, {10, []int{11}, 11, 11}, {10, []int{10}, 10, 10}, {10, []int{1, 1, 1}, 3, 1},
		{0, []int{0}, 0, 0}, {0, []int{1}, 1, 1}, {0, []int{7, 7}, 1, 1}, {-1, nil, 0, 1}, {-1, []int{5}, 1, 1}, {-9, []int{0, 5}, 1, 0}, {math.MinInt, []int{3}, 1, 1},
		{1, nil, 0, 1}, {1, []int{1}, 1, 1}, {1, []int{1, 1}, 2, 1}, {1, []int{2}, 2, 2}, {1, []int{2, 0}, 2, 0},
		{64, []int{64}, 64, 64}, {64, []int{65}, 65, 65}, {64, []int{8, 8}, 16, 64}, {64, []int{5, 13}, 18, 65}, {64, []int{32, 32}, 64, 65}, {64, []int{32, 33}, 65, 65},
		{10, []int{-4, 7}, 7, 0}, {10, []int{-4, -7}, 0, 0}, {10, []int{math.MinInt, 3, math.MinInt}, 3, 0}, {10, []int{3, -3}, 3, 0},
		{10, []int{math.MaxInt, math.MaxInt}, 11, 11}, {10, []int{math.MaxInt, math.MaxInt, 0}, 11, 0}, {10, []int{math.MaxInt, math.MaxInt, -1}, 11, 0}, {10, []int{99, 99, 99, 99, 0}, 11, 0},
		{10, []int{1 << 32, 1 << 32}, 11, 11}, {10, []int{1 << 31, 1 << 31, 4}, 11, 11}, {10, []int{3, 1 << 62, 4}, 11, 11}, {10, []int{1 << 62, 1 << 62, 1 << 62, 1 << 62}, 11, 11},
		{top, []int{top}, top, top}, {top, []int{top - 1, 1}, top, top - 1}, {top, []int{top, 1}, top + 1, top}, {top, []int{1 << 31, 1 << 31}, 1 << 32, top}, {top, []int{1 << 31, 1<<31 + 1}, 1<<32 + 1, top + 1},
		{top, []int{math.MaxInt}, top + 1, top + 1}, {top, []int{top + 1}, top + 1, top + 1}, {top + 1, []int{top + 1}, top + 1, top + 1}, {top + 1, []int{top + 2}, top + 1, top + 1}, {math.MaxInt, []int{math.MaxInt}, top + 1, top + 1},
		{math.MaxInt, []int{top}, top, top}, {math.MaxInt, []int{top, top}, top + 1, top + 1}, {math.MaxInt, []int{math.MaxInt, math.MaxInt, 2}, top + 1, top + 1}, {math.MaxInt, nil, 0, 1},
	} {
		if got := push.Sum(c.most, c.widths...); got != c.sum {
			t.Errorf("Sum(%d, %v) = %d, not %d", c.most, c.widths, got, c.sum)
		}
		if got := push.Product(c.most, c.widths...); got != c.product {
			t.Errorf("Product(%d, %v) = %d, not %d", c.most, c.widths, got, c.product)
		}
	}
}

// told is a whole number without a bound as Sum and Product tell it.
func told(most int, n *big.Int) int {
	most = min(max(most, 0), 1<<62)
	if n.Cmp(big.NewInt(int64(most))) > 0 {
		return most + 1
	}
	return int(n.Int64())
}

// holdNumbers holds Sum and Product against whole numbers without a bound.
func holdNumbers(t *testing.T, most int, widths ...int) {
	t.Helper()
	sum, product := big.NewInt(0), big.NewInt(1)
	for _, width := range widths {
		w := big.NewInt(int64(max(width, 0)))
		sum.Add(sum, w)
		product.Mul(product, w)
	}
	if got := push.Sum(most, widths...); got != told(most, sum) {
		t.Fatalf("Sum(%d, %v) = %d, not %d", most, widths, got, told(most, sum))
	}
	if got := push.Product(most, widths...); got != told(most, product) {
		t.Fatalf("Product(%d, %v) = %d, not %d", most, widths, got, told(most, product))
	}
}

// P7.1 and rule 9: sums and products are those of whole numbers without a bound, cut then.
func TestNumbersWithoutBound(t *testing.T) {
	numbers := []int{math.MinInt, -1, 0, 1, 2, 3, 64, 65, 1 << 21, 1<<31 - 1, 1 << 31, 1<<31 + 1, 1 << 32, 1 << 61, 1<<62 - 1, 1 << 62, 1<<62 + 1, math.MaxInt}
	for _, most := range append(numbers, math.MinInt+1, -64, 4, 5, 6, 7, 8, 9, 63, 1<<42, math.MaxInt-1) {
		holdNumbers(t, most)
		for _, one := range numbers {
			holdNumbers(t, most, one)
			for _, two := range numbers {
				holdNumbers(t, most, one, two)
				for _, three := range numbers {
					holdNumbers(t, most, one, two, three)
					holdNumbers(t, most, one, two, 1, three, two)
				}
			}
		}
	}
	for most := range 40 {
		for one := range 12 {
			for two := range 12 {
				for three := range 12 {
					holdNumbers(t, most-3, one-1, two-1, three-1)
				}
			}
		}
	}
}

// P7.1: very many widths.
func TestManyWidths(t *testing.T) {
	ones := slices.Repeat([]int{1}, 1000000)
	for _, most := range []int{64, 999999, 1000000, 1000001, math.MaxInt} {
		if got := push.Sum(most, ones...); got != min(1000000, most+min(1, math.MaxInt-most)) {
			t.Errorf("Sum(%d, a million ones) = %d", most, got)
		}
		if got := push.Product(most, ones...); got != 1 {
			t.Errorf("Product(%d, a million ones) = %d", most, got)
		}
	}
	great := slices.Repeat([]int{math.MaxInt}, 1000000)
	if got := push.Product(10, append(great, 0)...); got != 0 {
		t.Errorf("Product of great ones and 0 = %d", got)
	}
	if got := push.Sum(10, append(great, 0)...); got != 11 {
		t.Errorf("Sum of great ones and 0 = %d", got)
	}
}

// wantPush is Push as the chapter tells it, negation by negation.
func wantPush(n api.Node) api.Node {
	each := func(kids []api.Node, negated bool) []api.Node {
		var out []api.Node
		for _, kid := range kids {
			if negated {
				kid = node(api.OpNot, kid)
			}
			out = append(out, wantPush(kid))
		}
		return out
	}
	if n.Op != api.OpNot {
		return api.Node{Op: n.Op, Pred: n.Pred, Kids: each(n.Kids, false)}
	}
	switch kid := n.Kids[0]; kid.Op {
	case api.OpNot:
		return wantPush(kid.Kids[0])
	case api.OpAnd:
		return node(api.OpOr, each(kid.Kids, true)...)
	case api.OpOr:
		return node(api.OpAnd, each(kid.Kids, true)...)
	}
	return n
}

// P7.1: Push, and nothing is joined or left out beyond what the chapter tells.
func TestPush(t *testing.T) {
	for _, c := range []struct{ n, want api.Node }{
		{p, p}, {tree.Not(p), tree.Not(p)}, {tree.Not(tree.Not(tree.Not(p))), tree.Not(p)},
		{tree.And(p, p), tree.And(p, p)}, {tree.Or(tree.Or(p, q), r), tree.Or(tree.Or(p, q), r)}, {tree.And(tree.And(p, q), p), tree.And(tree.And(p, q), p)},
		{tree.Not(tree.And(p, q, r)), tree.Or(tree.Not(p), tree.Not(q), tree.Not(r))},
		{tree.Not(tree.Or(p, tree.Not(q), r)), tree.And(tree.Not(p), q, tree.Not(r))},
		{tree.Not(tree.And(tree.And(p, q), r)), tree.Or(tree.Or(tree.Not(p), tree.Not(q)), tree.Not(r))},
		{tree.Not(tree.Not(tree.And(p, tree.Not(tree.Or(q, r))))), tree.And(p, tree.And(tree.Not(q), tree.Not(r)))},
		{tree.Not(tree.Or(tree.And(p, tree.Not(q)), tree.Not(tree.And(r, s)))), tree.And(tree.Or(tree.Not(p), q), tree.And(r, s))},
		{tree.Not(tree.And(tree.Not(tree.And(tree.Not(tree.And(p, q)), r)), s)), tree.Or(tree.And(tree.Or(tree.Not(p), tree.Not(q)), r), tree.Not(s))},
	} {
		if got := mustPush(t, c.n); !tree.Same(got, c.want) {
			t.Errorf("Push(%v) = %v, not %v", c.n, got, c.want)
		}
	}
	for _, n := range small() {
		if got := mustPush(t, n); !tree.Same(got, wantPush(n)) {
			t.Fatalf("Push(%v) = %v, not %v", n, got, wantPush(n))
		}
	}
}

// P7.1: each kind of predicates is pushed with all that it has, empty lists beside it or not.
func TestPushOfPreds(t *testing.T) {
	for _, one := range []api.Pred{
		{Kind: api.PredInts, Attr: "a", Ints: []int{3, 1, 3}}, {Kind: api.PredInts, Attr: "a", Ints: make([]int, 64), Words: []string{}},
		{Kind: api.PredWords, Attr: "b_9", Words: []string{"", "\x00\xff"}}, {Kind: api.PredWords, Attr: "a", Words: make([]string, 64), Ints: []int{}},
		{Kind: api.PredRange, Attr: "a", Lo: api.Most, Hi: api.Least}, {Kind: api.PredRange, Attr: "a"}, {Kind: api.PredRange, Attr: strings.Repeat("n", 32), Lo: 1, Hi: 2},
		{Kind: api.PredPrefix, Attr: "a", Words: []string{strings.Repeat("w", 64)}}, {Kind: api.PredPrefix, Attr: "a", Words: []string{""}},
	} {
		n := api.Node{Op: api.OpPred, Pred: one, Kids: []api.Node{}}
		not := api.Node{Op: api.OpNot, Pred: api.Pred{Ints: []int{}, Words: []string{}}, Kids: []api.Node{n}}
		if got := mustPush(t, n); !tree.Same(got, n) || !push.Pushed(n) {
			t.Errorf("Push(%v) = %v", n, got)
		}
		if got := mustPush(t, not); !tree.Same(got, not) || !push.Pushed(not) {
			t.Errorf("Push(%v) = %v", not, got)
		}
		if got := mustPush(t, tree.Not(not)); !tree.Same(got, n) || push.Pushed(tree.Not(not)) {
			t.Errorf("Push(%v) = %v", tree.Not(not), got)
		}
		if w := mustWidth(t, n, 1) + mustWidth(t, not, 1); w != 2 {
			t.Errorf("the widths of %v and its negation are together %d", n, w)
		}
	}
}

// P7.1: Pushed, asked of the one text: there stands no negation ahead of another or of a parenthesis.
func TestPushed(t *testing.T) {
	counts := [2]int{}
	for _, n := range small() {
		line, _ := tree.Text(n)
		want := !strings.Contains(line, "!!") && !strings.Contains(line, "!(")
		if push.Pushed(n) != want {
			t.Fatalf("Pushed(%s) isn't %t", line, want)
		}
		if want {
			counts[0]++
		} else {
			counts[1]++
		}
	}
	if counts[0] < 100 || counts[1] < 100 {
		t.Errorf("%v: too lopsided to tell much", counts)
	}
}

// P7.1: of what isn't in form there is no push and no width, and ErrForm comes ahead of ErrRange.
func TestOutOfForm(t *testing.T) {
	for _, n := range badTrees() {
		if push.Pushed(n) {
			t.Errorf("Pushed(%v)", n)
		}
		if got, e := push.Push(n); e != api.ErrForm || !tree.Same(got, api.Node{}) {
			t.Errorf("Push(%v) = %v, %d", n, got, e)
		}
		for _, most := range []int{64, 1, 0, 65, -1} {
			if got, e := push.Width(n, most); e != api.ErrForm || got != 0 {
				t.Errorf("Width(%v, %d) = %d, %d", n, most, got, e)
			}
		}
	}
}

// P7.1: which most is in its range.
func TestWidthRange(t *testing.T) {
	for _, n := range []api.Node{p, tree.Or(p, q), tree.Not(tree.And(p, q, r))} {
		for _, most := range []int{0, -1, 65, 66, -64, 1 << 32, 1<<32 + 1, 1 << 62, math.MaxInt, math.MinInt} {
			if got, e := push.Width(n, most); e != api.ErrRange || got != 0 {
				t.Errorf("Width(%v, %d) = %d, %d", n, most, got, e)
			}
		}
		for most := 1; most <= api.MaxConj; most++ {
			mustWidth(t, n, most)
		}
	}
}

// count is the width of a tree, or of its negation, without a bound, asked without pushing it.
func count(n api.Node, negated bool) *big.Int {
	if n.Op == api.OpPred {
		return big.NewInt(1)
	}
	if n.Op == api.OpNot {
		return count(n.Kids[0], !negated)
	}
	sum, product := big.NewInt(0), big.NewInt(1)
	for _, kid := range n.Kids {
		one := count(kid, negated)
		sum.Add(sum, one)
		product.Mul(product, one)
	}
	if (n.Op == api.OpOr) != negated {
		return sum
	}
	return product
}

// P7.1, P7.3: Width of many trees under each most: at least 1, and cut just where it is above.
func TestWidth(t *testing.T) {
	for i, n := range small() {
		want := count(n, false)
		for most := 1; most <= api.MaxConj; most += 1 + i%5 {
			if got := mustWidth(t, n, most); got != told(most, want) || got < 1 {
				t.Fatalf("Width(%v, %d) = %d, not %d", n, most, got, told(most, want))
			}
		}
	}
}

// P7.1: widths that are just most and one above it, as a sum, as a product and under a negation.
func TestWidthEdges(t *testing.T) {
	for width := 2; width <= api.MaxConj+1; width++ {
		or := node(api.OpOr, slices.Repeat([]api.Node{p}, width)...)
		notAnd := node(api.OpNot, node(api.OpAnd, slices.Repeat([]api.Node{q}, width)...))
		list := []api.Node{or, notAnd, node(api.OpAnd, or, q), node(api.OpNot, node(api.OpOr, r, node(api.OpNot, notAnd)))}
		for factor := 2; factor*factor <= width; factor++ {
			if width%factor == 0 {
				list = append(list, node(api.OpAnd, node(api.OpOr, or.Kids[:factor]...), node(api.OpOr, or.Kids[:width/factor]...)))
			}
		}
		for _, n := range list {
			for most := 1; most <= api.MaxConj; most++ {
				if got := mustWidth(t, n, most); got != min(width, most+1) {
					t.Fatalf("Width of %d with most %d = %d", width, most, got)
				}
			}
		}
	}
}

// P7.1: widths far above what an int holds.
func TestGreatWidths(t *testing.T) {
	or := tree.Or(p, q)
	product := node(api.OpAnd, slices.Repeat([]api.Node{or}, 200)...)
	for _, n := range []api.Node{
		product, tree.And(product, p), tree.Or(product, p), tree.Or(product, product), tree.Not(tree.Not(product)),
		tree.Not(node(api.OpOr, slices.Repeat([]api.Node{tree.And(p, q)}, 64)...)),
		node(api.OpAnd, slices.Repeat([]api.Node{node(api.OpOr, slices.Repeat([]api.Node{p}, 256)...)}, 8)...),
	} {
		for _, most := range []int{1, 2, 63, 64} {
			if got := mustWidth(t, n, most); got != most+1 {
				t.Errorf("a great width with most %d is %d", most, got)
			}
		}
	}
	if got := mustWidth(t, tree.Not(product), 64); got != 65 {
		t.Errorf("Width of 200 Ands = %d", got)
	}
	if got := mustWidth(t, tree.Not(node(api.OpAnd, product.Kids[:64]...)), 64); got != 64 {
		t.Errorf("Width of 64 Ands = %d", got)
	}
}

func number(name string, n int) api.Pair {
	return api.Pair{Name: name, Value: api.Value{Kind: api.KindInt, Int: n}}
}

func word(name, w string) api.Pair {
	return api.Pair{Name: name, Value: api.Value{Kind: api.KindWord, Word: w}}
}

// events make now these, now those of the predicates true.
func events() [][]api.Pair {
	out := [][]api.Pair{nil, {word("a", "x")}, {{Name: "a"}, number("a", 1)}, {number("a", 1), number("a", 7)}, {number("c", 1), word("c", "x")}}
	for _, a := range []int{1, -2, 0, 9} {
		out = append(out, []api.Pair{number("a", a)})
		for _, c := range []string{"x", "y", "xx", ""} {
			out = append(out, []api.Pair{number("a", a), word("c", c)}, []api.Pair{word("c", c)})
		}
	}
	return out
}

// P7.2: what Push answers is pushed, has the same truth, and is pushed no further.
func TestPushKeepsTruth(t *testing.T) {
	list := events()
	for _, n := range small() {
		got := mustPush(t, n)
		if !push.Pushed(got) {
			t.Fatalf("Push(%v) = %v isn't pushed", n, got)
		}
		for _, event := range list {
			if eval.Eval(got, event) != eval.Eval(n, event) {
				t.Fatalf("of %v: Push(%v) = %v has another truth", event, n, got)
			}
		}
		if again := mustPush(t, got); !tree.Same(again, got) {
			t.Fatalf("Push(%v) = %v", got, again)
		}
		if push.Pushed(n) && !tree.Same(got, n) {
			t.Fatalf("Push(%v) = %v, though it is pushed", n, got)
		}
		if twice := mustPush(t, tree.Not(tree.Not(n))); !tree.Same(twice, got) {
			t.Fatalf("Push(!!%v) = %v, not %v", n, twice, got)
		}
	}
}

// P7.3: the widths of Or, of And and of a negated And, and what a greater most tells.
func TestWidthLaws(t *testing.T) {
	few := []api.Node{p, tree.Not(q), tree.Or(p, q), tree.And(p, q), tree.Or(p, q, r), tree.Not(tree.And(p, q, tree.Or(r, s))), tree.And(tree.Or(p, q), tree.Or(r, s, q)), tree.Not(tree.Or(tree.And(p, q), tree.And(r, s), r))}
	for _, a := range slices.Concat(few, joined(few)) {
		for _, b := range few {
			for _, most := range []int{1, 2, 3, 5, 6, 7, 12, 63, 64} {
				one, two := mustWidth(t, a, most), mustWidth(t, b, most)
				if got := mustWidth(t, tree.Or(a, b), most); got != push.Sum(most, one, two) || got != min(one+two, most+1) {
					t.Fatalf("most %d: %d or %d = %d", most, one, two, got)
				}
				if got := mustWidth(t, tree.And(a, b), most); got != push.Product(most, one, two) || got != min(one*two, most+1) {
					t.Fatalf("most %d: %d and %d = %d", most, one, two, got)
				}
				if got, want := mustWidth(t, tree.Not(tree.And(a, b)), most), mustWidth(t, tree.Or(tree.Not(a), tree.Not(b)), most); got != want {
					t.Fatalf("most %d: of !(%v & %v) %d, not %d", most, a, b, got, want)
				}
			}
		}
		for less := 1; less < api.MaxConj; less++ {
			if one := mustWidth(t, a, less); one <= less && mustWidth(t, a, less+1) != one {
				t.Fatalf("%v: with most %d it is %d, with one more another", a, less, one)
			}
		}
	}
}

// Rule 1: trees that are very deep or very broad.
func TestGreatTrees(t *testing.T) {
	deep := p
	for range 1<<16 - 1 {
		deep = node(api.OpNot, deep)
	}
	if got := mustPush(t, deep); !tree.Same(got, tree.Not(p)) || push.Pushed(deep) {
		t.Errorf("Push of an odd number of negations = %v", got)
	}
	if got := mustPush(t, deep.Kids[0]); !tree.Same(got, p) {
		t.Errorf("Push of an even number of negations = %v", got)
	}
	if got := mustWidth(t, deep, 1); got != 1 {
		t.Errorf("Width of negations = %d", got)
	}
	// Not over And over Not over And: an And over an Or over an And when it is pushed.
	nest := p
	for range 1 << 14 {
		nest = node(api.OpNot, node(api.OpAnd, q, nest))
	}
	if got := mustPush(t, nest); tree.Depth(got) < 1<<14 || !push.Pushed(got) || got.Op != api.OpOr || got.Kids[1].Op != api.OpAnd {
		t.Error("Push of a deep nest")
	}
	if got := mustWidth(t, nest, 64); got != 65 {
		t.Errorf("Width of a deep nest = %d", got)
	}
	ands := p
	for range 1<<16 - 1 {
		ands = node(api.OpAnd, ands, q)
	}
	if got := mustWidth(t, ands, 1); got != 1 || !push.Pushed(ands) {
		t.Errorf("Width of nested Ands = %d", got)
	}
	broad := slices.Repeat([]api.Node{node(api.OpNot, q)}, 100000)
	if got := mustWidth(t, node(api.OpAnd, broad...), 64); got != 1 {
		t.Errorf("Width of a broad And = %d", got)
	}
	if got := mustWidth(t, node(api.OpOr, broad...), 64); got != 65 {
		t.Errorf("Width of a broad Or = %d", got)
	}
	if got := mustPush(t, node(api.OpNot, node(api.OpOr, broad...))); len(got.Kids) != 100000 || got.Op != api.OpAnd || !tree.Same(got.Kids[99999], q) {
		t.Error("Push of a broad Or negated")
	}
}

// block is the memory of a list, its spare room with it.
type block struct{ from, to uintptr }

func blockOf[T any](list []T) block {
	from := uintptr(unsafe.Pointer(unsafe.SliceData(list)))
	return block{from, from + uintptr(cap(list))*unsafe.Sizeof(*new(T))}
}

// blocks are those of all lists of a tree.
func blocks(n api.Node) []block {
	out := []block{blockOf(n.Ints), blockOf(n.Words), blockOf(n.Kids)}
	for _, kid := range n.Kids {
		out = append(out, blocks(kid)...)
	}
	return slices.DeleteFunc(out, func(b block) bool { return b.from == b.to })
}

// Rule 5: no two lists of what was handed in and of what Push answered share memory.
func TestAnswersAreNew(t *testing.T) {
	list := []api.Node{p, s, tree.Not(p), tree.Not(tree.Not(s)), tree.And(p, q, s), tree.Not(tree.Or(p, tree.And(s, tree.Not(r)), tree.Not(tree.And(p, s))))}
	for _, n := range list {
		one, two := mustPush(t, n), mustPush(t, n)
		again := mustPush(t, one)
		all := slices.Concat(blocks(n), blocks(one), blocks(two), blocks(again))
		slices.SortFunc(all, func(a, b block) int { return cmp.Compare(a.from, b.from) })
		for i := range all[1:] {
			if all[i].to > all[i+1].from {
				t.Errorf("two lists of Push(%v) share memory", n)
			}
		}
	}
	// The same kid handed in at two places isn't one in what is answered.
	got := mustPush(t, node(api.OpAnd, s, s, node(api.OpNot, s)))
	got.Kids[0].Words[0] = "changed"
	if want := node(api.OpAnd, got.Kids[0], s, tree.Not(s)); !tree.Same(got, want) || s.Words[0] != "x" {
		t.Errorf("written into one kid: %v", got)
	}
}

// Rule 5: what is handed in stays as it was, the room behind it too.
func TestHandedInIsLeft(t *testing.T) {
	ints, words := []int{5, 3, 1, 9}, []string{"y", "x", "ab", "z"}
	kids := []api.Node{leaf(api.Pred{Kind: api.PredInts, Attr: "a", Ints: ints[:3]}), tree.Not(leaf(api.Pred{Kind: api.PredWords, Attr: "c", Words: words[:3]})), tree.Ints("z", 7)}
	kids[1].Kids[0].Words = words[:3]
	n := node(api.OpNot, api.Node{Op: api.OpAnd, Kids: kids[:2]})
	before, beforeKids := tree.And(n), tree.Or(kids...)
	widths := []int{4, -7, 0, 3, 9}
	push.Pushed(n)
	pushed := mustPush(t, n)
	mustWidth(t, n, 1)
	push.Sum(2, widths[:4]...)
	push.Product(2, widths[:4]...)
	pushed.Kids = append(pushed.Kids, p)
	pushed.Kids[1].Words = append(pushed.Kids[1].Words, "more")
	pushed.Kids[1].Words[0] = "changed"
	if !slices.Equal(ints, []int{5, 3, 1, 9}) || !slices.Equal(words, []string{"y", "x", "ab", "z"}) || !slices.Equal(widths, []int{4, -7, 0, 3, 9}) ||
		!tree.Same(n, before) || !tree.Same(tree.Or(kids...), beforeKids) {
		t.Errorf("changed: %v, %v, %v, %v, %v", ints, words, widths, n, kids)
	}
}
