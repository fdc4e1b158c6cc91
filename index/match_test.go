package index_test

import (
	"math/rand/v2"
	"slices"
	"strings"
	"testing"

	"trommel/api"
	"trommel/conj"
	"trommel/eval"
	"trommel/index"
	"trommel/parse"
	"trommel/push"
	"trommel/schema"
	"trommel/tree"
)

// answer is what is told of an event.
type answer struct {
	event         []api.Pair
	match, judged []int
}

// holdAnswers holds Match and Judged to what is said, and all else to the sheet.
func holdAnswers(t *testing.T, p *pair, list ...answer) {
	t.Helper()
	for _, a := range list {
		if match, trace := p.x.Match(a.event), p.x.Trace(a.event); !slices.Equal(match, a.match) || !slices.Equal(trace.Judged, a.judged) {
			t.Errorf("%v: Match = %v, Judged %v, not %v, %v", a.event, match, trace.Judged, a.match, a.judged)
		}
		p.hold(a.event)
	}
}

// P15.1, P15.2: which subscriptions are met: two by one event, one through several conjunctions, each once, rising.
func TestMatch(t *testing.T) {
	p := newPair(t)
	p.put(9, made(t, "a {1} | a [0, 3] | a {1, 2}")...)     // 1 2 3
	p.put(4, made(t, "!a {1}")...)                          // 4
	p.put(6, made(t, `a {1} & c "x"* | a {2} & !c ""*`)...) // 5 6
	p.put(2, always, made(t, "a {1}")[0])                   // 7 8
	p.put(5)
	p.put(1, never) // 9
	holdAnswers(t, p,
		answer{nil, []int{2, 4}, []int{4, 7}},
		answer{[]api.Pair{number("a", 1)}, []int{2, 9}, []int{1, 2, 3, 4, 7, 8}},
		answer{[]api.Pair{number("a", 2)}, []int{2, 4, 6, 9}, []int{2, 3, 4, 6, 7}},
		answer{[]api.Pair{number("a", 3)}, []int{2, 4, 9}, []int{2, 4, 7}},
		answer{[]api.Pair{number("a", 4)}, []int{2, 4}, []int{4, 7}},
		answer{[]api.Pair{number("a", 1), word("c", "xy")}, []int{2, 6, 9}, []int{1, 2, 3, 4, 5, 6, 7, 8}},
		answer{[]api.Pair{word("c", ""), number("a", 2)}, []int{2, 4, 9}, []int{2, 3, 4, 6, 7}},
	)
	// What is left of 9 holds still; 2 has lost what always holds.
	p.put(9, made(t, "a {1, 3}")...)      // 10
	p.put(2, made(t, "a {2} | b {1}")...) // 11 12
	p.drop(4)
	for range 2 {
		holdAnswers(t, p,
			answer{nil, nil, nil},
			answer{[]api.Pair{number("a", 1)}, []int{9}, []int{10}},
			answer{[]api.Pair{number("a", 2)}, []int{2, 6}, []int{6, 11}},
			answer{[]api.Pair{number("a", 2), number("b", 1)}, []int{2, 6}, []int{6, 11, 12}},
		)
		p.compact()
	}
}

// P15.1, P15.2: events without pairs, with a name twice, with values out of form, with names that are none.
func TestEvents(t *testing.T) {
	p := newPair(t)
	p.put(8, made(t, "a {1} | b {1}")...) // 1 2
	p.put(3, made(t, "!a {1}")...)        // 3
	p.put(5, made(t, "a {1} & b {1}")...) // 4
	bad := api.Pair{Name: "a", Value: api.Value{Kind: api.KindInt, Int: api.Most + 1}}
	holdAnswers(t, p,
		answer{nil, []int{3}, []int{3}}, answer{[]api.Pair{}, []int{3}, []int{3}},
		answer{[]api.Pair{number("a", 1), number("a", 2)}, []int{8}, []int{1, 3}},
		answer{[]api.Pair{number("a", 2), number("a", 1)}, []int{3}, []int{3}},
		answer{[]api.Pair{number("b", 1), number("a", 1), number("b", 2)}, []int{5, 8}, []int{1, 2, 3, 4}},
		// One out of form hides those behind it.
		answer{[]api.Pair{bad, number("a", 1)}, []int{3}, []int{3}}, answer{[]api.Pair{number("a", 1), bad}, []int{8}, []int{1, 3}}, answer{[]api.Pair{bad, number("b", 1), number("a", 1)}, []int{3, 8}, []int{2, 3}},
		answer{[]api.Pair{word("a", "1")}, []int{3}, []int{3}}, answer{[]api.Pair{{}}, []int{3}, []int{3}}, answer{[]api.Pair{number("", 1), number("A", 1), number("a", 1)}, []int{8}, []int{1, 3}},
	)
	for _, v := range badValues() {
		holdAnswers(t, p, answer{[]api.Pair{{Name: "a", Value: v}}, []int{3}, []int{3}}, answer{[]api.Pair{{Name: "b", Value: v}, number("a", 1), number("b", 1)}, []int{8}, []int{1, 3}})
	}
}

// P15.1, P4: Trace is that of a part with all conjunctions under their numbers: dead ones aren't to be seen, nor lists of these alone.
func TestTrace(t *testing.T) {
	p := newPair(t)
	p.put(6, made(t, `a {5} & c "x"* | a [0, 7] & !c {"y"}`)...) // 1 2
	p.put(2, made(t, "!a {5}")...)                               // 3
	event := []api.Pair{number("a", 5), word("c", "xy")}
	lists := []api.Opened{opened(0, zeroKey, 1), opened(0, intKey("a", 5), 1), opened(1, spanKey("a", 3, 1<<28), 1), opened(2, intKey("a", 5), 1), opened(2, prefixKey("c", "x"), 1)}
	if got := p.x.Trace(event); !slices.Equal(got.Lists, lists) || !slices.Equal(got.Judged, []int{1, 2, 3}) || !slices.Equal(p.x.Match(event), []int{6}) {
		t.Errorf("Trace = %v", got)
	}
	p.put(2, made(t, `c {"xy"} | a {5}`)...) // 4 5
	lists = []api.Opened{opened(1, intKey("a", 5), 1), opened(1, spanKey("a", 3, 1<<28), 1), opened(1, wordKey("c", "xy"), 1), opened(2, intKey("a", 5), 1), opened(2, prefixKey("c", "x"), 1)}
	for range 2 {
		if got := p.x.Trace(event); !slices.Equal(got.Lists, lists) || !slices.Equal(got.Judged, []int{1, 2, 4, 5}) || !slices.Equal(p.x.Match(event), []int{2, 6}) {
			t.Errorf("Trace = %v", got)
		}
		p.hold(event, event[:1], event[1:])
		p.compact()
	}
	p.drop(6)
	if got := p.x.Trace(event); !slices.Equal(got.Lists, []api.Opened{lists[0], lists[2]}) || !slices.Equal(got.Judged, []int{4, 5}) {
		t.Errorf("Trace = %v", got)
	}
	p.hold(event)
}

// P4: lists under the event's own keys alone, in partitions up to the number of its attributes; judged only where enough lists stand.
func TestWhatAMatchLooksAt(t *testing.T) {
	p := newPair(t)
	for i, text := range []string{
		"a {5, 6}", "a {6}", "a [4, 5]", "a [0, 9]", "a [-2147483648, 2147483647]", "a [6, 9]", `a {"5"}`, `c ""*`, `c "x"*`, `c "xy"*`, `c {"x", "xy"}`, `c "xyz"*`, "b {5}", "!a {6} & !b {5}", `a {5} & b {5}`, `a {5} & c "x"*`, `a {5} & b {5} & c "x"*`,
	} {
		p.put(100-i, made(t, text)...)
	}
	half := 1 << 30 // the index of the number 0 at level 1
	ones := []api.Opened{opened(1, intKey("a", 5), 1), opened(1, spanKey("a", 1, half+2), 1), opened(1, spanKey("a", 3, half/4), 1), opened(1, spanKey("a", 32, 0), 1)}
	texts := []api.Opened{opened(1, wordKey("c", "xy"), 1), opened(1, prefixKey("c", ""), 1), opened(1, prefixKey("c", "x"), 1), opened(1, prefixKey("c", "xy"), 1)}
	zero, twos := opened(0, zeroKey, 1), []api.Opened{opened(2, intKey("a", 5), 2), opened(2, prefixKey("c", "x"), 1)}
	for _, c := range []struct {
		event  []api.Pair
		lists  []api.Opened
		judged []int
	}{
		{nil, []api.Opened{zero}, []int{14}},
		{[]api.Pair{number("a", 5)}, slices.Concat([]api.Opened{zero}, ones), []int{1, 3, 4, 5, 14}},
		{[]api.Pair{word("c", "xy")}, slices.Concat([]api.Opened{zero}, texts), []int{8, 9, 10, 11, 14}},
		{[]api.Pair{number("a", 5), word("c", "xy")}, slices.Concat([]api.Opened{zero}, ones, texts, twos), []int{1, 3, 4, 5, 8, 9, 10, 11, 14, 16}},
		{[]api.Pair{number("b", 5)}, []api.Opened{zero, opened(0, intKey("b", 5), 1), opened(1, intKey("b", 5), 1)}, []int{13, 14}},
		// A third attribute, of which no conjunction asks: partition 3 is opened, and none there is judged.
		{[]api.Pair{number("a", 5), word("c", "xy"), number("z", 0)}, slices.Concat([]api.Opened{zero}, ones, texts, twos, []api.Opened{opened(3, intKey("a", 5), 1), opened(3, prefixKey("c", "x"), 1)}), []int{1, 3, 4, 5, 8, 9, 10, 11, 14, 16}},
	} {
		if got := p.x.Trace(c.event); !slices.Equal(got.Lists, c.lists) || !slices.Equal(got.Judged, c.judged) {
			t.Errorf("Trace(%v) = %v, not %v, %v", c.event, got, c.lists, c.judged)
		}
		p.hold(c.event)
	}
}

// texts are expressions of many shapes over a and b, numbers, and c and d, words.
func texts() []string {
	return []string{
		"a {1}", "!a {1}", "!!a {1}", "a {1, 2} & !c \"x\"*", "(a {1} | b {2}) & (a {3} | b {4})", "a {1} & a {3}", "a {1} & !a {1}", "a {1} | !a {1}", "!(a {1} & b {2})", "!(a {1} | b {2})", "!(a {1} & !(b {2} | c {\"x\"}))",
		"a [0, 7]", "a [5, 3]", "!a [5, 3]", "a [5, 3] | b {2}", "a [-2147483648, 2147483647]", "!a [-2147483648, 2147483647]", "a {2147483647} | a {-2147483648}", "a [1, 1] & a {1, 2}", "a [0, 4] & a [2, 9] & !a {3}",
		`c ""*`, `!c ""*`, `c "x"* & c "xy"*`, `c "x"* & c "y"*`, `c {"", "x"} & !c {"x"}`, `c {"x", "xy"} & c "xy"* | d ""* & !c "x"*`, `(c "x"* | d "x"*) & (c "y"* | d "y"*) & (a {1} | b {1})`, `!(c "x"* & d "x"* | a {1} & b {1})`,
		"(a {1} | a {2} | b {1}) & (a {2} | b {2} | c {\"x\"}) & !(a {3} | b {3})", "!(!(a {1} | b {2}) | !(a {1, 2} | c {\"y\"}))", "a {1} & b {1} & c {\"x\"} & d {\"x\"} | !a {1} & !b {1} & !c {\"x\"} & !d {\"x\"}",
	}
}

// someEvents are all that say one of a few things, or nothing, of a, b and c, and one that says something of d.
func someEvents(t *testing.T) [][]api.Pair {
	t.Helper()
	s := attributes(t)
	list := [][]api.Pair{nil}
	add := func(values ...api.Pair) {
		for _, event := range slices.Clone(list) {
			for _, v := range values {
				list = append(list, append(slices.Clone(event), v))
			}
		}
	}
	add(number("a", 1), number("a", 2), number("a", 3), number("a", api.Least), number("a", api.Most))
	add(number("b", 1), number("b", 2), number("b", 4))
	add(word("c", ""), word("c", "x"), word("c", "xy"), word("c", "y"))
	add(word("d", "xy"))
	for i, event := range list {
		ordered, e := s.Event(event...)
		if e != api.OK {
			t.Fatalf("Event(%v): %d", event, e)
		}
		list[i] = ordered
	}
	return list
}

// attributes is the schema of the texts.
func attributes(t *testing.T) *schema.Schema {
	t.Helper()
	s, e := schema.New(api.Attr{Name: "a", Kind: api.KindInt}, api.Attr{Name: "b", Kind: api.KindInt}, api.Attr{Name: "c", Kind: api.KindWord}, api.Attr{Name: "d", Kind: api.KindWord})
	if e != api.OK {
		t.Fatal(e)
	}
	return s
}

// expressed is the tree of a text that fits the schema.
func expressed(t *testing.T, text string) api.Node {
	t.Helper()
	n, e := parse.Expr(attributes(t), api.MaxDepth, text)
	if e != api.OK {
		t.Fatalf("Expr(%s): %d", text, e)
	}
	return n
}

// holdTruth holds what an index answers to what the evaluator makes true of the trees under their numbers.
func holdTruth(t *testing.T, x *index.Index, trees map[int]api.Node, events ...[]api.Pair) int {
	t.Helper()
	matched := 0
	for _, event := range events {
		got := x.Match(event)
		for id, n := range trees {
			if slices.Contains(got, id) != eval.Eval(n, event) {
				line, _ := tree.Text(n)
				t.Fatalf("Match(%v) = %v: %d is %s", event, got, id, line)
			}
		}
		matched += len(got)
	}
	return matched
}

// P2, P15.3: expressions as texts, one by one and all together: what matches is what the evaluator makes true.
func TestOneMeaning(t *testing.T) {
	together, trees, all := index.New(), map[int]api.Node{}, someEvents(t)
	for i, text := range texts() {
		n := expressed(t, text)
		conjs, e := conj.All(n, api.MaxConj)
		if e != api.OK {
			t.Fatalf("All(%s): %d", text, e)
		}
		x := index.New()
		if x.Put(i+1, conjs...) != api.OK || together.Put(i+1, conjs...) != api.OK {
			t.Fatalf("Put(%s) isn't OK", text)
		}
		holdTruth(t, x, map[int]api.Node{i + 1: n}, all...)
		trees[i+1] = n
	}
	if matched := holdTruth(t, together, trees, all...); matched < 1000 || together.Subs() != len(trees) {
		t.Errorf("only %d matched", matched)
	}
	holdTruth(t, together, trees, events()...)
}

// P15.3: an expression that was replaced is met by just the events of the later one, behind Compact too.
func TestReplaced(t *testing.T) {
	list, all := texts(), someEvents(t)
	x, trees := index.New(), map[int]api.Node{}
	for i, text := range list {
		id := 1 + i%5
		x.Put(id, made(t, text)...)
		trees[id] = parsed(t, text)
		if i%4 == 3 {
			x.Compact()
		}
		if i%7 == 6 {
			x.Drop(id)
			delete(trees, id)
		}
		holdTruth(t, x, trees, all...)
		for _, event := range all[:20] {
			for _, met := range x.Match(event) {
				if _, there := trees[met]; !there {
					t.Fatalf("Match(%v) names %d, which was dropped", event, met)
				}
			}
		}
	}
}

// P2, P15.3: trees by chance, through their one text: put, replaced and dropped.
func TestOneMeaningByChance(t *testing.T) {
	chance := rand.New(rand.NewPCG(15, 4))
	matched, wide := 0, 0
	for range 60 {
		x, trees := index.New(), map[int]api.Node{}
		for range 30 {
			n := someTree(chance, 1+chance.IntN(4), "a", "b", "c", "d")
			line, e := tree.Text(n)
			if e != api.OK {
				t.Fatalf("Text(%v): %d", n, e)
			}
			id := 1 + chance.IntN(20)
			if len(line) > api.MaxText {
				continue
			}
			conjs, e := conj.All(expressed(t, line), api.MaxConj)
			if e != api.OK {
				wide++
				continue
			}
			if x.Put(id, conjs...) != api.OK {
				t.Fatalf("Put(%s) isn't OK", line)
			}
			trees[id] = n
			switch chance.IntN(8) {
			case 0:
				x.Drop(id)
				delete(trees, id)
			case 1:
				x.Compact()
			}
		}
		for range 40 {
			matched += holdTruth(t, x, trees, someEvent(chance, "a", "b", "c", "d", "e"))
		}
	}
	if matched < 5000 || wide < 20 {
		t.Errorf("%d matched, %d were too wide: too few to tell much", matched, wide)
	}
}

// width is that of a tree, or of what it isn't, by recursion over what it is when pushed.
func width(n api.Node, negated bool) int {
	switch n.Op {
	case api.OpPred:
		return 1
	case api.OpNot:
		return width(n.Kids[0], !negated)
	}
	sum, product := 0, 1
	for _, kid := range n.Kids {
		w := width(kid, negated)
		sum, product = min(sum+w, 1<<30), min(product*w, 1<<30)
	}
	if (n.Op == api.OpAnd) != negated {
		return product
	}
	return sum
}

// holdWidth holds All to the width: refused just below it; from it on as many conjunctions, with the tree's truth.
func holdWidth(t *testing.T, n api.Node, events ...[]api.Pair) bool {
	t.Helper()
	line, _ := tree.Text(n)
	own, narrow := width(n, false), false
	for most := 1; most <= api.MaxConj; most++ {
		conjs, e := conj.All(n, most)
		if own > most {
			if e != api.ErrTooWide || len(conjs) != 0 {
				t.Fatalf("All(%s, %d) = %d conjunctions, %d: its width is %d", line, most, len(conjs), e, own)
			}
			continue
		}
		narrow = true
		if e != api.OK || len(conjs) != own {
			t.Fatalf("All(%s, %d) = %d conjunctions, %d: its width is %d", line, most, len(conjs), e, own)
		}
		x := index.New()
		if x.Put(1, conjs...) != api.OK || x.Conjs() != own || len(x.Numbers(1)) != own {
			t.Fatalf("%s: Conjs %d", line, x.Conjs())
		}
		if most == own || most == api.MaxConj {
			holdTruth(t, x, map[int]api.Node{1: n}, events...)
		}
	}
	return narrow
}

// P3: the conjunctions have the expression's truth; too wide is just what is above the limit.
func TestWidth(t *testing.T) {
	all := someEvents(t)[:40]
	for _, text := range texts() {
		n := expressed(t, text)
		if w, e := push.Width(n, api.MaxConj); e != api.OK || w != width(n, false) {
			t.Errorf("Width(%s) = %d, %d", text, w, e)
		}
		holdWidth(t, n, all...)
	}
	either := func(count int) string { return "(" + strings.Repeat("a {1} | ", count-1) + "b {1})" }
	for _, c := range []struct {
		text string
		want int
	}{
		{either(64), 64}, {either(65), 65}, {either(8) + " & " + either(8), 64}, {either(5) + " & " + either(13), 65}, {"!(" + strings.Repeat("a {1} & ", 63) + "b {2})", 64}, {"!(" + strings.Repeat("a {1} & ", 64) + "b {2})", 65},
		{strings.Repeat(either(2)+" & ", 5) + either(2), 64}, {strings.Repeat(either(2)+" & ", 6) + either(2), 128}, {either(63) + " | c {\"x\"}", 64}, {either(64) + " | c {\"x\"}", 65}, {either(64) + " & c {\"x\"}", 64}, {"!" + either(200), 1},
	} {
		n := expressed(t, c.text)
		if got := width(n, false); got != c.want {
			t.Errorf("the width of %s is %d, not %d", c.text, got, c.want)
		}
		if narrow := holdWidth(t, n, all...); narrow != (c.want <= api.MaxConj) {
			t.Errorf("%s of width %d: %v", c.text, c.want, narrow)
		}
	}
}

// P3: the width of trees by chance.
func TestWidthByChance(t *testing.T) {
	chance := rand.New(rand.NewPCG(15, 5))
	wide := 0
	for range 200 {
		n := someTree(chance, 2+chance.IntN(4), "a", "b", "c")
		if !holdWidth(t, n, someEvent(chance, "a", "b", "c"), someEvent(chance, "a", "b", "c"), nil) {
			wide++
		}
	}
	if wide < 10 || wide > 150 {
		t.Errorf("%d of 200 are too wide: too few, or too many, to tell much", wide)
	}
}

// P15.1 to P15.4: as many subscriptions and conjunctions as a registry may have, and more.
func TestMany(t *testing.T) {
	x := index.New()
	const count = 5000
	for id := count; id >= 1; id-- {
		c := []api.Conj{{Pos: []api.Pred{ints("a", id%7)}}, {Pos: []api.Pred{span("b", 0, id)}, Neg: []api.Pred{ints("c", id%5)}}, {Neg: []api.Pred{prefix("d", "")}}}
		if e := x.Put(id, c[:1+id%3]...); e != api.OK {
			t.Fatal(e)
		}
	}
	event := []api.Pair{number("a", 3), number("b", 2500), number("c", 2), word("d", "x")}
	var want []int
	conjs := 0
	for id := 1; id <= count; id++ {
		conjs += 1 + id%3
		if id%7 == 3 || id%3 > 0 && id >= 2500 && id%5 != 2 {
			want = append(want, id)
		}
	}
	if got := x.Match(event); !slices.Equal(got, want) || x.Subs() != count || x.Conjs() != conjs || len(x.IDs()) != count {
		t.Errorf("%d match, not %d; Subs %d, Conjs %d", len(got), len(want), x.Subs(), x.Conjs())
	}
	dead := 0
	for id := 2; id <= count; id += 2 {
		dead += 1 + id%3
		x.Put(id, always)
	}
	want = slices.DeleteFunc(want, func(id int) bool { return id%2 == 0 })
	for id := 2; id <= count; id += 2 {
		want = append(want, id)
	}
	slices.Sort(want)
	for range 2 {
		if got := x.Match(event); !slices.Equal(got, want) || x.Owner(conjs+1) != 2 || x.Owner(conjs+count/2) != count {
			t.Errorf("%d match, not %d", len(got), len(want))
		}
		if got := x.Compact(); got != dead {
			t.Errorf("Compact = %d, not %d", got, dead)
		}
		dead = 0
	}
	var ids []int
	for id := 1; id <= 2*count; id++ {
		ids = append(ids, id)
	}
	if x.Drop(ids...) != count || x.Subs() != 0 || x.Conjs() != 0 || len(x.Match(event)) != 0 {
		t.Error("not all go")
	}
}
