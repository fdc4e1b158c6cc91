package tree_test

import (
	"fmt"
	"math"
	"slices"
	"strconv"
	"strings"
	"testing"

	"trommel/api"
	"trommel/tree"
	"trommel/value"
)

var (
	p = tree.Ints("a", 1, -2)
	q = tree.Range("a", 5, 3)
	r = tree.Prefix("tag", "x")
)

func ints(n int) []int { return make([]int, n) }

func words(n int) []string { return make([]string, n) }

func leaf(p api.Pred) api.Node { return api.Node{Op: api.OpPred, Pred: p} }

func node(op int, kids ...api.Node) api.Node { return api.Node{Op: op, Kids: kids} }

// goodPreds are predicates in form, at the edges too, each another one.
func goodPreds() []api.Pred {
	return []api.Pred{
		{Kind: api.PredInts, Attr: "a", Ints: []int{0}},
		{Kind: api.PredInts, Attr: "a", Ints: []int{1}, Words: []string{}},
		{Kind: api.PredInts, Attr: "b", Ints: []int{1}},
		{Kind: api.PredInts, Attr: "a", Ints: []int{3, 1, 3}},
		{Kind: api.PredInts, Attr: "a", Ints: []int{1, 3, 3}},
		{Kind: api.PredInts, Attr: "a", Ints: []int{api.Least, api.Most}},
		{Kind: api.PredInts, Attr: "a", Ints: ints(63)},
		{Kind: api.PredInts, Attr: "a", Ints: ints(64)},
		{Kind: api.PredInts, Attr: strings.Repeat("n", 32), Ints: []int{1}},
		{Kind: api.PredWords, Attr: "a", Words: []string{""}},
		{Kind: api.PredWords, Attr: "a", Words: []string{"x"}, Ints: []int{}},
		{Kind: api.PredWords, Attr: "a", Words: []string{"x", "x"}},
		{Kind: api.PredWords, Attr: "a", Words: []string{`x", "x`}},
		{Kind: api.PredWords, Attr: "a", Words: []string{"\x00\xff", strings.Repeat("w", 64)}},
		{Kind: api.PredWords, Attr: "a", Words: words(64)},
		{Kind: api.PredRange, Attr: "a"},
		{Kind: api.PredRange, Attr: "a", Lo: 0, Hi: 1},
		{Kind: api.PredRange, Attr: "a", Lo: 1, Hi: 0},
		{Kind: api.PredRange, Attr: "a", Lo: api.Least, Hi: api.Most},
		{Kind: api.PredRange, Attr: "a", Lo: api.Most, Hi: api.Least, Ints: []int{}, Words: []string{}},
		{Kind: api.PredPrefix, Attr: "a", Words: []string{""}},
		{Kind: api.PredPrefix, Attr: "a", Words: []string{"x"}},
		{Kind: api.PredPrefix, Attr: "a_9", Words: []string{strings.Repeat("\xff", 64)}},
	}
}

// badPreds are predicates out of form.
func badPreds() []api.Pred {
	out := []api.Pred{
		{},
		{Attr: "a"},
		{Kind: api.PredInts, Attr: "a"},
		{Kind: api.PredInts, Attr: "a", Ints: []int{}},
		{Kind: api.PredInts, Attr: "a", Ints: ints(65)},
		{Kind: api.PredInts, Attr: "a", Ints: ints(100000)},
		{Kind: api.PredWords, Attr: "a"},
		{Kind: api.PredWords, Attr: "a", Words: []string{}},
		{Kind: api.PredWords, Attr: "a", Words: words(65)},
		{Kind: api.PredWords, Attr: "a", Words: []string{strings.Repeat("w", 65)}},
		{Kind: api.PredWords, Attr: "a", Words: []string{"x", "y", strings.Repeat("w", 65)}},
		{Kind: api.PredPrefix, Attr: "a"},
		{Kind: api.PredPrefix, Attr: "a", Words: []string{}},
		{Kind: api.PredPrefix, Attr: "a", Words: []string{"x", "x"}},
		{Kind: api.PredPrefix, Attr: "a", Words: []string{strings.Repeat("w", 65)}},
	}
	for _, n := range []int{api.Least - 1, api.Most + 1, math.MinInt, math.MaxInt} {
		out = append(out,
			api.Pred{Kind: api.PredInts, Attr: "a", Ints: []int{n}},
			api.Pred{Kind: api.PredInts, Attr: "a", Ints: []int{1, 2, n}},
			api.Pred{Kind: api.PredRange, Attr: "a", Lo: n},
			api.Pred{Kind: api.PredRange, Attr: "a", Hi: n})
	}
	for _, good := range goodPreds() {
		for _, attr := range []string{"", "A", "9", "_a", "a b", "a ", "ä", strings.Repeat("n", 33)} {
			bad := good
			bad.Attr = attr
			out = append(out, bad)
		}
		for _, kind := range []int{0, 5, -1, math.MinInt, math.MaxInt} {
			bad := good
			bad.Kind = kind
			out = append(out, bad)
		}
		out = append(out, tooMuch(good)...)
	}
	return out
}

// tooMuch is a predicate with each thing that its kind doesn't use.
func tooMuch(good api.Pred) []api.Pred {
	one, two, three, four := good, good, good, good
	one.Ints = []int{0}
	two.Words = []string{""}
	three.Lo, four.Hi = 1, -1
	switch good.Kind {
	case api.PredInts:
		return []api.Pred{two, three, four}
	case api.PredRange:
		return []api.Pred{one, two}
	}
	return []api.Pred{one, three, four}
}

// P4.1: Pred, and Check of a node that has a predicate.
func TestPreds(t *testing.T) {
	for _, p := range goodPreds() {
		if tree.Pred(p) != api.OK || tree.Check(leaf(p)) != api.OK {
			t.Errorf("%v isn't in form", p)
		}
		if tree.Check(api.Node{Op: api.OpPred, Pred: p, Kids: []api.Node{}}) != api.OK {
			t.Errorf("%v isn't in form beside an empty list of kids", p)
		}
	}
	for _, p := range badPreds() {
		if tree.Pred(p) != api.ErrForm || tree.Check(leaf(p)) != api.ErrForm {
			t.Errorf("%v is in form", p)
		}
	}
}

// badTrees are trees out of form.
func badTrees() []api.Node {
	out := []api.Node{
		{}, {Op: api.OpPred}, {Op: api.OpNot}, {Op: api.OpAnd}, {Op: api.OpOr},
		{Op: api.OpPred, Pred: p.Pred, Kids: []api.Node{q}},
		{Op: api.OpPred, Kids: []api.Node{q}}, {Op: api.OpPred, Kids: []api.Node{p, q}},
		node(api.OpNot), node(api.OpNot, p, q), node(api.OpAnd, p), node(api.OpOr, p), node(api.OpAnd, tree.And(p, q)),
		tree.And(), tree.Or(), tree.Not(tree.And()), tree.Ints("a"), tree.Words("a"), tree.Ints("A", 1), tree.Prefix("", "x"),
	}
	for _, op := range []int{0, 5, -1, math.MinInt, math.MaxInt} {
		out = append(out, node(op), node(op, p), node(op, p, q), api.Node{Op: op, Pred: p.Pred})
	}
	for _, extra := range []api.Pred{p.Pred, q.Pred, {Kind: 1}, {Kind: -1}, {Attr: "a"}, {Ints: ints(1)}, {Words: words(1)}, {Lo: 1}, {Hi: -1}} {
		out = append(out,
			api.Node{Op: api.OpNot, Pred: extra, Kids: []api.Node{p}},
			api.Node{Op: api.OpAnd, Pred: extra, Kids: []api.Node{p, q}},
			api.Node{Op: api.OpOr, Pred: extra, Kids: []api.Node{p, q}})
	}
	for _, bad := range slices.Clone(out) {
		out = append(out, node(api.OpNot, bad), node(api.OpAnd, p, bad), node(api.OpOr, bad, p), node(api.OpOr, p, node(api.OpNot, node(api.OpAnd, p, bad, q))))
	}
	return out
}

// smallTrees are all trees in form over some predicates of up to three nodes' levels, each another one.
func smallTrees() []api.Node {
	first := []api.Node{p, q, r}
	second := slices.Concat(first, joined(first))
	return slices.Concat(first, joined(second))
}

// joined are the nodes of each operation over kids of a list.
func joined(kids []api.Node) []api.Node {
	var out []api.Node
	for _, one := range kids {
		out = append(out, node(api.OpNot, one))
		for _, two := range kids {
			out = append(out, node(api.OpAnd, one, two), node(api.OpOr, one, two), node(api.OpAnd, one, two, kids[0]), node(api.OpOr, kids[0], one, two))
		}
	}
	return out
}

// P4.1: Check, and beside its ErrForm Text answers none.
func TestCheck(t *testing.T) {
	for _, n := range smallTrees() {
		if e := tree.Check(n); e != api.OK {
			t.Fatalf("Check(%v) = %d", n, e)
		}
	}
	spare := node(api.OpAnd, p, q)
	spare.Ints, spare.Words = []int{}, []string{}
	if e := tree.Check(spare); e != api.OK {
		t.Errorf("Check of a node with empty lists = %d", e)
	}
	for _, n := range badTrees() {
		if e := tree.Check(n); e != api.ErrForm {
			t.Errorf("Check(%v) = %d", n, e)
		}
		if s, e := tree.Text(n); e != api.ErrForm || s != "" {
			t.Errorf("Text(%v) = %q, %d", n, s, e)
		}
	}
}

// P4.1: Depth and Size, of nodes in form and out of it.
func TestShape(t *testing.T) {
	odd := api.Node{Op: 77, Pred: api.Pred{Kind: -3, Attr: "?", Ints: ints(9)}}
	for _, c := range []struct {
		n           api.Node
		depth, size int
	}{
		{p, 1, 1}, {odd, 1, 1}, {api.Node{}, 1, 1}, {node(api.OpAnd), 1, 1}, {api.Node{Kids: []api.Node{}}, 1, 1},
		{tree.And(p, tree.Not(q)), 3, 4},
		{tree.Not(p), 2, 2}, {tree.Or(p, q, r), 2, 4}, {tree.And(tree.Not(tree.Not(p)), q), 4, 5}, {tree.And(q, tree.Not(tree.Not(p)), r), 4, 6},
		{node(0, odd), 2, 2}, {node(api.OpPred, odd, odd, node(-1, odd)), 3, 5}, {node(api.OpNot, p, q, node(api.OpAnd, node(9)), r), 3, 6},
	} {
		if d, s := tree.Depth(c.n), tree.Size(c.n); d != c.depth || s != c.size {
			t.Errorf("of %v: Depth %d, Size %d, not %d, %d", c.n, d, s, c.depth, c.size)
		}
	}
}

// changed are copies of a node, each with one thing of it, or of a kid, changed.
func changed(n api.Node) []api.Node {
	var out []api.Node
	alter := func(f func(*api.Node)) {
		other := n
		other.Ints, other.Words, other.Kids = slices.Clone(n.Ints), slices.Clone(n.Words), slices.Clone(n.Kids)
		f(&other)
		out = append(out, other)
	}
	alter(func(o *api.Node) { o.Op++ })
	alter(func(o *api.Node) { o.Kind++ })
	alter(func(o *api.Node) { o.Attr += "x" })
	alter(func(o *api.Node) { o.Lo++ })
	alter(func(o *api.Node) { o.Hi-- })
	alter(func(o *api.Node) { o.Ints = append(o.Ints, 0) })
	alter(func(o *api.Node) { o.Words = append(o.Words, "") })
	alter(func(o *api.Node) { o.Kids = append(o.Kids, api.Node{}) })
	for i := range n.Ints {
		alter(func(o *api.Node) { o.Ints[i]++ })
	}
	for i := range n.Words {
		alter(func(o *api.Node) { o.Words[i] += "x" })
	}
	for i := range n.Kids {
		alter(func(o *api.Node) { o.Kids = slices.Delete(o.Kids, i, i+1) })
		for _, kid := range changed(n.Kids[i]) {
			alter(func(o *api.Node) { o.Kids[i] = kid })
		}
	}
	return out
}

// P4.1: Same, of nodes in form and out of it.
func TestSame(t *testing.T) {
	odd := api.Node{Op: -4, Pred: api.Pred{Kind: 9, Attr: "\xff", Ints: []int{4, 5}, Words: []string{"x", "y"}, Lo: 8, Hi: 9}, Kids: []api.Node{p, {}, r}}
	for _, n := range []api.Node{{}, p, q, r, odd, tree.And(p, q), tree.Or(tree.Not(odd), tree.And(r, q), tree.Words("w", "x", "y"))} {
		if !tree.Same(n, n) || !tree.Same(n, tree.And(n)) {
			t.Errorf("%v isn't the same as itself", n)
		}
		for _, other := range changed(n) {
			if tree.Same(n, other) || tree.Same(other, n) {
				t.Errorf("%v is the same as %v", n, other)
			}
		}
	}
	for _, pair := range [][2]api.Node{
		{tree.Ints("a", 1, 2), tree.Ints("a", 2, 1)}, {tree.Ints("a", 1), tree.Ints("a", 1, 1)}, {tree.And(p, q), tree.And(q, p)},
		{tree.And(p, q), tree.Or(p, q)}, {tree.Words("a", "x"), tree.Prefix("a", "x")}, {tree.And(p, q, r), tree.And(tree.And(p, q), r)},
		{tree.Words("a", "x", "y"), tree.Words("a", "xy", "")}, {p, tree.Not(tree.Not(p))},
	} {
		if tree.Same(pair[0], pair[1]) || tree.Same(pair[1], pair[0]) {
			t.Errorf("%v is the same as %v", pair[0], pair[1])
		}
	}
	full := api.Node{Pred: api.Pred{Ints: []int{}, Words: []string{}}, Kids: []api.Node{{Kids: []api.Node{}}}}
	if bare := (api.Node{Kids: []api.Node{{}}}); !tree.Same(full, bare) || !tree.Same(bare, full) {
		t.Error("an empty list isn't as none")
	}
}

// P4.1: the builders, with what is in form and what isn't.
func TestBuilders(t *testing.T) {
	odd := api.Node{Op: 9, Pred: api.Pred{Kind: 7, Attr: "?", Lo: 3}}
	for i, c := range []struct{ got, want api.Node }{
		{tree.Ints("a", 3, 1, 3), leaf(api.Pred{Kind: api.PredInts, Attr: "a", Ints: []int{3, 1, 3}})},
		{tree.Ints("", math.MinInt), leaf(api.Pred{Kind: api.PredInts, Ints: []int{math.MinInt}})},
		{tree.Ints("a"), leaf(api.Pred{Kind: api.PredInts, Attr: "a"})},
		{tree.Ints("a", ints(99)...), leaf(api.Pred{Kind: api.PredInts, Attr: "a", Ints: ints(99)})},
		{tree.Words("a", "y", "", "y"), leaf(api.Pred{Kind: api.PredWords, Attr: "a", Words: []string{"y", "", "y"}})},
		{tree.Words("A"), leaf(api.Pred{Kind: api.PredWords, Attr: "A"})},
		{tree.Range("a", 5, 3), leaf(api.Pred{Kind: api.PredRange, Attr: "a", Lo: 5, Hi: 3})},
		{tree.Range("a b", math.MaxInt, math.MinInt), leaf(api.Pred{Kind: api.PredRange, Attr: "a b", Lo: math.MaxInt, Hi: math.MinInt})},
		{tree.Prefix("a", ""), leaf(api.Pred{Kind: api.PredPrefix, Attr: "a", Words: []string{""}})},
		{tree.Prefix("a", strings.Repeat("w", 99)), leaf(api.Pred{Kind: api.PredPrefix, Attr: "a", Words: []string{strings.Repeat("w", 99)}})},
		{tree.Not(p), node(api.OpNot, p)},
		{tree.Not(odd), node(api.OpNot, odd)},
		{tree.Not(tree.Not(p)), node(api.OpNot, node(api.OpNot, p))},
		{tree.And(), api.Node{}},
		{tree.Or(), api.Node{}},
		{tree.And([]api.Node{}...), api.Node{}},
		{tree.And(p), p},
		{tree.Or(p), p},
		{tree.And(odd), odd},
		{tree.Or(tree.And(p, q)), node(api.OpAnd, p, q)},
		{tree.And(p, q), node(api.OpAnd, p, q)},
		{tree.Or(p, q), node(api.OpOr, p, q)},
		{tree.And(r, odd, q, p), node(api.OpAnd, r, odd, q, p)},
		{tree.Or(api.Node{}, p, api.Node{}), node(api.OpOr, api.Node{}, p, api.Node{})},
		{tree.And(tree.And(p, q), r), node(api.OpAnd, node(api.OpAnd, p, q), r)},
	} {
		if !tree.Same(c.got, c.want) {
			t.Errorf("%d: %v, not %v", i, c.got, c.want)
		}
	}
}

// rebuilt is what the builders make of a tree's parts.
func rebuilt(n api.Node) api.Node {
	var kids []api.Node
	for _, kid := range n.Kids {
		kids = append(kids, rebuilt(kid))
	}
	switch n.Op {
	case api.OpNot:
		return tree.Not(kids[0])
	case api.OpAnd:
		return tree.And(kids...)
	case api.OpOr:
		return tree.Or(kids...)
	}
	switch n.Kind {
	case api.PredInts:
		return tree.Ints(n.Attr, n.Ints...)
	case api.PredWords:
		return tree.Words(n.Attr, n.Words...)
	case api.PredRange:
		return tree.Range(n.Attr, n.Lo, n.Hi)
	}
	return tree.Prefix(n.Attr, n.Words[0])
}

// P4.2: what is built of a tree's parts is the same tree.
func TestRebuilt(t *testing.T) {
	for _, n := range smallTrees() {
		if got := rebuilt(n); !tree.Same(got, n) {
			t.Fatalf("%v, not %v", got, n)
		}
	}
	for _, p := range goodPreds() {
		if got := rebuilt(leaf(p)); !tree.Same(got, leaf(p)) {
			t.Errorf("%v, not %v", got, leaf(p))
		}
	}
}

// P4.2: what is built is in form just if its parts are.
func TestBuiltInForm(t *testing.T) {
	hold := func(n api.Node, good bool) {
		t.Helper()
		if got := tree.Check(n); (got == api.OK) != good {
			t.Errorf("Check(%v) = %d", n, got)
		}
	}
	for _, attr := range []string{"a", "A", ""} {
		for _, members := range []int{0, 1, 64, 65} {
			good := attr == "a" && members >= 1 && members <= 64
			hold(tree.Ints(attr, ints(members)...), good)
			hold(tree.Words(attr, words(members)...), good)
		}
		hold(tree.Range(attr, api.Most, api.Least), attr == "a")
		hold(tree.Range(attr, api.Most+1, 0), false)
		hold(tree.Range(attr, 0, api.Least-1), false)
		hold(tree.Prefix(attr, strings.Repeat("w", 64)), attr == "a")
		hold(tree.Prefix(attr, strings.Repeat("w", 65)), false)
	}
	bad := badTrees()
	for i, n := range []api.Node{p, tree.Not(q), tree.And(p, q), bad[0], bad[7], bad[len(bad)-1]} {
		good := i < 3
		hold(tree.Not(n), good)
		for _, join := range []func(...api.Node) api.Node{tree.And, tree.Or} {
			hold(join(n), good)
			hold(join(n, n), good)
			hold(join(p, n), good)
			hold(join(n, p, q), good)
			hold(join(p, q, n), good)
		}
	}
}

// P4.1: Text, the chapter's examples among them.
func TestText(t *testing.T) {
	a, b, c := "a {1, -2}", "a [5, 3]", `tag "x"*`
	for _, one := range []struct {
		n    api.Node
		want string
	}{
		{p, a}, {q, b}, {r, c},
		{tree.And(tree.Or(p, q), tree.Not(tree.And(q, r)), r), "(" + a + " | " + b + ") & !(" + b + " & " + c + ") & " + c},
		{tree.Or(tree.And(p, q), tree.Or(q, r)), a + " & " + b + " | (" + b + " | " + c + ")"},
		{tree.Not(tree.Not(p)), "!!" + a},
		{tree.And(tree.And(p, q), r), "(" + a + " & " + b + ") & " + c},
		{tree.And(p, tree.And(q, r)), a + " & (" + b + " & " + c + ")"},
		{tree.And(p, q, r), a + " & " + b + " & " + c},
		{tree.Or(p, q, r), a + " | " + b + " | " + c},
		{tree.Not(tree.Or(p, q)), "!(" + a + " | " + b + ")"},
		{tree.Or(p, tree.Not(q)), a + " | !" + b},
		{tree.Not(tree.Not(tree.And(p, q))), "!!(" + a + " & " + b + ")"},
		{tree.And(tree.Not(tree.Or(tree.And(p, q), r)), r), "!(" + a + " & " + b + " | " + c + ") & " + c},
		{tree.Ints("a", 0), "a {0}"},
		{tree.Ints("a", 2, 1, 2), "a {2, 1, 2}"},
		{tree.Ints("a_9", api.Least, api.Most), "a_9 {-2147483648, 2147483647}"},
		{tree.Range("a", api.Least, api.Most), "a [-2147483648, 2147483647]"},
		{tree.Range("a", 0, 0), "a [0, 0]"},
		{tree.Words("w", "", "x y", "\"\\\x00\xff"), `w {"", "x y", "\"\\\x00\xff"}`},
		{tree.Prefix("w", ""), `w ""*`},
		{tree.Prefix("w", "a\"\n"), `w "a\"\x0a"*`},
	} {
		if s, e := tree.Text(one.n); e != api.OK || s != one.want {
			t.Errorf("Text = %q, %d, not %q", s, e, one.want)
		}
	}
}

// wantText is Text as the chapter tells it, written another way.
func wantText(n api.Node, parent int) string {
	var parts []string
	for _, kid := range n.Kids {
		parts = append(parts, wantText(kid, n.Op))
	}
	for _, i := range n.Ints {
		parts = append(parts, strconv.Itoa(i))
	}
	for _, w := range n.Words {
		parts = append(parts, value.Quote(w))
	}
	switch {
	case n.Op == api.OpOr && parent == 0:
		return strings.Join(parts, " | ")
	case n.Op == api.OpOr:
		return "(" + strings.Join(parts, " | ") + ")"
	case n.Op == api.OpAnd && (parent == api.OpOr || parent == 0):
		return strings.Join(parts, " & ")
	case n.Op == api.OpAnd:
		return "(" + strings.Join(parts, " & ") + ")"
	case n.Op == api.OpNot:
		return "!" + parts[0]
	case n.Kind == api.PredRange:
		return fmt.Sprintf("%s [%d, %d]", n.Attr, n.Lo, n.Hi)
	case n.Kind == api.PredPrefix:
		return n.Attr + " " + parts[0] + "*"
	}
	return n.Attr + " {" + strings.Join(parts, ", ") + "}"
}

// P4.3: of many trees each has the text that the chapter tells, and no two have the same.
func TestTextsDiffer(t *testing.T) {
	trees := smallTrees()
	for _, p := range goodPreds() {
		trees = append(trees, leaf(p), tree.Not(tree.Not(leaf(p))), tree.And(leaf(p), tree.Or(leaf(p), leaf(p))))
	}
	seen := map[string]api.Node{}
	for _, n := range trees {
		s, e := tree.Text(n)
		if want := wantText(n, 0); e != api.OK || s != want {
			t.Fatalf("Text(%v) = %q, %d, not %q", n, s, e, want)
		}
		if other, ok := seen[s]; ok && !tree.Same(n, other) {
			t.Fatalf("%v and %v have the text %q", n, other, s)
		}
		if again, _ := tree.Text(rebuilt(n)); again != s {
			t.Fatalf("the same tree has the texts %q and %q", s, again)
		}
		seen[s] = n
	}
}

// nested are n nodes above one another.
func nested(n int) api.Node {
	out := p
	for i := 1; i < n; i++ {
		if i%2 == 0 {
			out = node(api.OpAnd, out, q)
		} else {
			out = node(api.OpNot, out)
		}
	}
	return out
}

// Rule 1: trees that are very deep or very broad.
func TestGreatTrees(t *testing.T) {
	const levels = 1 << 16
	deep := nested(levels)
	if d, s := tree.Depth(deep), tree.Size(deep); d != levels || s != levels+levels/2-1 {
		t.Errorf("Depth %d, Size %d", d, s)
	}
	if s, e := tree.Text(deep); e != api.OK || strings.Count(s, "!") != levels/2 || strings.Count(s, "(") != levels/2-1 {
		t.Errorf("Text: %d bytes, %d", len(s), e)
	}
	if n := tree.And(deep); !tree.Same(n, deep) || tree.Same(tree.Not(n), deep) {
		t.Error("a deep tree isn't the same as its copy")
	}
	broad := tree.Or(slices.Repeat([]api.Node{p}, 100000)...)
	if tree.Check(broad) != api.OK || tree.Depth(broad) != 2 || tree.Size(broad) != 100001 {
		t.Errorf("a broad tree: Depth %d, Size %d", tree.Depth(broad), tree.Size(broad))
	}
	if s, e := tree.Text(broad); e != api.OK || len(s) != 100000*len("a {1, -2} | ")-3 {
		t.Errorf("Text: %d bytes, %d", len(s), e)
	}
}

// scribble writes into every list of a tree, its spare room too.
func scribble(n *api.Node) {
	for i := range n.Kids {
		scribble(&n.Kids[i])
	}
	for i := range n.Ints[:cap(n.Ints)] {
		n.Ints[:cap(n.Ints)][i] = 666
	}
	for i := range n.Words[:cap(n.Words)] {
		n.Words[:cap(n.Words)][i] = "scribbled"
	}
	for i := range n.Kids[:cap(n.Kids)] {
		n.Kids[:cap(n.Kids)][i] = api.Node{Op: 666}
	}
}

// parts are trees whose lists have spare room; both calls give the same trees in other memory.
func parts() []api.Node {
	return []api.Node{
		leaf(api.Pred{Kind: api.PredInts, Attr: "a", Ints: append(make([]int, 0, 9), 1, 2)}),
		leaf(api.Pred{Kind: api.PredInts, Attr: "a", Ints: make([]int, 0, 9), Words: make([]string, 0, 9)}),
		{Op: api.OpNot, Kids: append(make([]api.Node, 0, 9), leaf(api.Pred{Kind: api.PredWords, Attr: "a", Words: append(make([]string, 0, 9), "x")}))},
		{Op: api.OpOr, Pred: api.Pred{Ints: []int{4}, Words: []string{"y"}}, Kids: []api.Node{{Kids: make([]api.Node, 0, 9)}, {Kids: []api.Node{{Pred: api.Pred{Ints: []int{5}}}}}}},
	}
}

// built is what each builder makes of parts.
func built(parts []api.Node, ints []int, words []string) []api.Node {
	out := []api.Node{
		tree.And(parts...), tree.Or(parts...), tree.And(parts[0], parts[0]), tree.And(), tree.Or(),
		tree.Ints("a", ints...), tree.Words("a", words...), tree.Range("a", 1, 2), tree.Prefix("a", "x"),
	}
	for _, n := range parts {
		out = append(out, tree.Not(n), tree.And(n), tree.Or(n))
	}
	return out
}

func sameAll(a, b []api.Node) bool { return slices.EqualFunc(a, b, tree.Same) }

// Rule 5: what the builders answer shares no memory with what was handed in, nor with another answer.
func TestBuiltIsNew(t *testing.T) {
	want := built(parts(), []int{7, 8}, []string{"u", "v"})
	for i := range want {
		handed, numbers, texts := parts(), append(make([]int, 0, 9), 7, 8), append(make([]string, 0, 9), "u", "v")
		first, second := built(handed, numbers, texts), built(handed, numbers, texts)
		scribble(&first[i])
		if !sameAll(handed, parts()) || !slices.Equal(numbers, []int{7, 8}) || !slices.Equal(texts, []string{"u", "v"}) {
			t.Errorf("answer %d shares memory with what was handed in", i)
		}
		if !sameAll(second, want) || !sameAll(first[:i], want[:i]) || !sameAll(first[i+1:], want[i+1:]) {
			t.Errorf("answer %d shares memory with another one", i)
		}
		for j := range handed {
			scribble(&handed[j])
		}
		clear(numbers)
		clear(texts)
		clear(handed)
		if !sameAll(second, want) {
			t.Errorf("the answers hang on what was handed in")
		}
	}
}

// Rule 5: no two lists of an answer share memory, where the same tree was handed in twice.
func TestListsOfAnAnswer(t *testing.T) {
	for _, join := range []func(...api.Node) api.Node{tree.And, tree.Or} {
		for _, n := range parts() {
			answer := join(n, tree.Range("b", 1, 2), n)
			scribble(&answer.Kids[0])
			if !tree.Same(answer.Kids[2], n) || !tree.Same(answer.Kids[1], tree.Range("b", 1, 2)) {
				t.Errorf("two kids share memory: %v", answer)
			}
			_ = append(answer.Kids[2].Kids, p)
			_ = append(answer.Kids[2].Ints, 9)
			if !tree.Same(n, answer.Kids[2]) {
				t.Errorf("%v and %v", n, answer.Kids[2])
			}
		}
	}
}

// Rule 5: nothing that is asked of a tree changes it, its spare room neither.
func TestAskedIsLeft(t *testing.T) {
	room := []int{1, 2, 3, 4}
	spare := []api.Node{p, q, r, tree.Not(p)}
	words := []string{"x", "y", "z"}
	n := node(api.OpAnd, leaf(api.Pred{Kind: api.PredInts, Attr: "a", Ints: room[:2]}), leaf(api.Pred{Kind: api.PredWords, Attr: "a", Words: words[:1]}), api.Node{Op: api.OpOr, Kids: spare[:2]})
	before := tree.And(n)
	tree.Check(n)
	tree.Pred(n.Kids[0].Pred)
	tree.Pred(n.Kids[1].Pred)
	tree.Depth(n)
	tree.Size(n)
	tree.Same(n, before)
	tree.Text(n)
	tree.Not(n)
	tree.And(n.Kids...)
	tree.Ints("a", room[:2]...)
	tree.Words("a", words[:1]...)
	if !tree.Same(n, before) || !slices.Equal(room, []int{1, 2, 3, 4}) || !slices.Equal(words, []string{"x", "y", "z"}) || !sameAll(spare, []api.Node{p, q, r, tree.Not(p)}) {
		t.Errorf("%v, %v, %v, %v", n, room, words, spare)
	}
}
