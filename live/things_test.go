package live_test

import (
	"math"
	"math/rand/v2"
	"slices"
	"strings"
	"testing"

	"trommel/api"
	"trommel/conj"
	"trommel/schema"
	"trommel/tree"
)

var (
	longest = strings.Repeat("w", api.MaxWord)
	most    = api.Limits{Depth: api.MaxDepth, Conj: api.MaxConj, Subs: api.MaxSubs, Total: api.MaxTotal}
	narrow  = api.Limits{Depth: 3, Conj: 4, Subs: 2, Total: 5}
)

var always, never = api.Conj{}, api.Conj{Never: true}

func config(l api.Limits, shards, queue int) api.Config {
	return api.Config{Limits: l, Shards: shards, Queue: queue, Window: 1, Users: 1}
}

// configs have every number of shards, each with a queue of every size there is, if all are asked for, else of a few.
func configs(l api.Limits, all bool) []api.Config {
	var list []api.Config
	for shards := 1; shards <= api.MaxShards; shards++ {
		for room := 1; room <= api.MaxQueue; room++ {
			if all || room < 3 || room == api.MaxQueue {
				list = append(list, config(l, shards, room))
			}
		}
	}
	return list
}

func change(kind, id int, text string) api.Call {
	return api.Call{Change: api.Change{Kind: kind, ID: id, Text: text}}
}

func sub(text string) api.Call { return change(api.Sub, 0, text) }

func replace(id int, text string) api.Call { return change(api.Replace, id, text) }

func unsub(id int) api.Call { return change(api.Unsub, id, "") }

func match(pairs ...api.Pair) api.Call {
	return api.Call{Change: api.Change{Kind: api.Match}, Event: pairs}
}

func number(name string, n int) api.Pair {
	return api.Pair{Name: name, Value: api.Value{Kind: api.KindInt, Int: n}}
}

func word(name, w string) api.Pair {
	return api.Pair{Name: name, Value: api.Value{Kind: api.KindWord, Word: w}}
}

func ints(attr string, xs ...int) api.Pred { return tree.Ints(attr, xs...).Pred }

func words(attr string, ws ...string) api.Pred { return tree.Words(attr, ws...).Pred }

func span(attr string, lo, hi int) api.Pred { return tree.Range(attr, lo, hi).Pred }

func prefix(attr, w string) api.Pred { return tree.Prefix(attr, w).Pred }

func must(preds ...api.Pred) api.Conj { return api.Conj{Pos: preds} }

func mustNot(preds ...api.Pred) api.Conj { return api.Conj{Neg: preds} }

// code is a refusal.
func code(e api.Errno) api.Answer { return api.Answer{Code: e} }

// given is the answer to a Sub.
func given(id int) api.Answer { return api.Answer{ID: id} }

// met is the answer to a Match.
func met(ids ...int) api.Answer { return api.Answer{IDs: ids} }

var done = api.Answer{}

func sameAnswers(a, b []api.Answer) bool {
	return slices.EqualFunc(a, b, func(a, b api.Answer) bool { return a.Code == b.Code && a.ID == b.ID && slices.Equal(a.IDs, b.IDs) })
}

func sameLists(a, b [][]int) bool { return slices.EqualFunc(a, b, slices.Equal[[]int]) }

// attributes is the schema of all texts: a and b are numbers, c and d words.
func attributes(t *testing.T) *schema.Schema {
	t.Helper()
	return schemaOf(t, api.Attr{Name: "a", Kind: api.KindInt}, api.Attr{Name: "b", Kind: api.KindInt}, api.Attr{Name: "c", Kind: api.KindWord}, api.Attr{Name: "d", Kind: api.KindWord})
}

func schemaOf(t *testing.T, attrs ...api.Attr) *schema.Schema {
	t.Helper()
	s, e := schema.New(attrs...)
	if e != api.OK {
		t.Fatal(e)
	}
	return s
}

// wide is a text of some width, and of the depth 2, or 1.
func wide(width int) string { return strings.Repeat("a {1} | ", width-1) + "b {1}" }

// deep is a text of some depth, and of the width 1.
func deep(depth int) string { return strings.Repeat("!", depth-1) + "a {1}" }

// texts are expressions of many shapes, none of them wider than 8 or deeper than 6.
func texts() []string {
	return []string{
		"a {1}", "!a {1}", "!!a {1}", "a {1, 2} & !c \"x\"*", "(a {1} | b {2}) & (a {3} | b {4})", "a {1} & a {3}", "a {1} & !a {1}", "a {1} | !a {1}", "!(a {1} & b {2})", "!(a {1} | b {2})", "!(a {1} & !(b {2} | c {\"x\"}))",
		"a [0, 7]", "a [5, 3]", "!a [5, 3]", "a [5, 3] | b {2}", "a [-2147483648, 2147483647]", "!a [-2147483648, 2147483647]", "a {2147483647} | a {-2147483648}", "a [1, 1] & a {1, 2}", "a [0, 4] & a [2, 9] & !a {3}",
		`c ""*`, `!c ""*`, `c "x"* & c "xy"*`, `c "x"* & c "y"*`, `c {"", "x"} & !c {"x"}`, `c {"x", "xy"} & c "xy"* | d ""* & !c "x"*`, `(c "x"* | d "x"*) & (c "y"* | d "y"*) & (a {1} | b {1})`, `!(c "x"* & d "x"* | a {1} & b {1})`,
		"(a {1} | a {2} | b {1}) & (a {2} | b {2}) & !(a {3} | b {3})", "!(!(a {1} | b {2}) | !(a {1, 2} | c {\"y\"}))", "a {1} & b {1} & c {\"x\"} & d {\"x\"} | !a {1} & !b {1} & !c {\"x\"} & !d {\"x\"}", `c {"\x00\xff\"\\"} | d {"` + longest + `"}`,
	}
}

// events are such that a schema takes them.
func events() [][]api.Pair {
	return [][]api.Pair{
		nil, {number("a", 1)}, {number("a", 2), word("c", "xy")}, {number("b", 2), number("a", 3), word("d", "x")}, {word("c", "x")}, {word("d", "y"), word("c", ""), number("b", 1), number("a", 1)}, {number("a", api.Least)}, {number("a", api.Most), number("b", 4)}, {word("d", longest)}, {word("c", "\x00\xff\"\\")}, {number("b", 4), number("a", 0)},
	}
}

// badValues are out of form.
func badValues() []api.Value {
	return []api.Value{
		{}, {Kind: api.KindInt, Int: api.Least - 1}, {Kind: api.KindInt, Int: api.Most + 1}, {Kind: api.KindInt, Int: math.MinInt}, {Kind: api.KindInt, Int: 1<<32 + 1}, {Kind: api.KindInt, Int: 1, Word: "x"},
		{Kind: api.KindWord, Word: longest + "w"}, {Kind: api.KindWord, Word: "x", Int: 1}, {Kind: 0, Int: 1}, {Kind: 3, Int: 1}, {Kind: -1, Word: "x"},
	}
}

// badEvents are refused by the schema: an attribute that isn't there, a value out of form, one of another kind, a name twice.
func badEvents() [][]api.Pair {
	list := [][]api.Pair{
		{number("z", 1)}, {number("", 1)}, {number("A", 1)}, {{}}, {word("a", "1")}, {number("c", 1)}, {number("a", 1), number("a", 1)}, {number("a", 1), word("c", "x"), number("a", 2)}, {number("a", 1), number("z", 1)}, {number("z", 1), number("a", 1)},
	}
	for _, v := range badValues() {
		list = append(list, []api.Pair{{Name: "a", Value: v}}, []api.Pair{number("b", 1), {Name: "c", Value: v}})
	}
	return list
}

// badConjs aren't normal.
func badConjs() []api.Conj {
	one := ints("a", 1)
	return []api.Conj{
		{Never: true, Pos: []api.Pred{one}}, {Never: true, Neg: []api.Pred{one}},
		must(one, one), must(one, ints("a", 2)), must(ints("b", 1), one), mustNot(one, one), mustNot(ints("a", 2), one), mustNot(span("a", 1, 2), one),
		must(ints("a", 2, 1)), must(ints("a", 1, 1)), must(words("a", "y", "x")), must(span("a", 3, 3)), must(span("a", 4, 3)), {Pos: []api.Pred{one}, Neg: []api.Pred{span("a", 4, 3)}},
		mustNot(ints("a", 2, 1)), mustNot(words("a", "x", "x")), must(api.Pred{}), mustNot(api.Pred{}), must(ints("a")), must(ints("A", 1)), must(ints("", 1)),
		mustNot(ints(strings.Repeat("a", api.MaxName+1), 1)), must(prefix("a", longest+"w")), must(ints("a", api.Most+1)), mustNot(span("a", api.Least-1, 0)), must(api.Pred{Kind: 7, Attr: "a", Ints: []int{1}}),
	}
}

// otherKinds are none of a call's.
func otherKinds() []int {
	return []int{0, -1, -4, 5, 6, 7, 99, 1<<32 + api.Sub, 1<<32 + api.Unsub, 1<<32 + api.Match, math.MinInt, math.MaxInt}
}

func someNumber(chance *rand.Rand) int {
	if chance.IntN(12) == 0 {
		return []int{api.Least, api.Least + 1, api.Most - 1, api.Most}[chance.IntN(4)]
	}
	return chance.IntN(5) - 1
}

func someWord(chance *rand.Rand) string {
	if chance.IntN(15) == 0 {
		return longest[:api.MaxWord-chance.IntN(2)]
	}
	w := ""
	for range chance.IntN(3) {
		w += string("xy"[chance.IntN(2)])
	}
	return w
}

// somePred asks for what its attribute is, but now and then for what it isn't, or of an attribute that isn't there.
func somePred(chance *rand.Rand) api.Node {
	at := chance.IntN(4)
	attr, numbers := string("abcd"[at]), at < 2
	switch chance.IntN(60) {
	case 0:
		attr = "z"
	case 1:
		numbers = !numbers
	}
	var xs []int
	var ws []string
	for range 1 + chance.IntN(3) {
		xs, ws = append(xs, someNumber(chance)), append(ws, someWord(chance))
	}
	set := chance.IntN(2) == 0
	switch {
	case numbers && set:
		return tree.Ints(attr, xs...)
	case numbers:
		return tree.Range(attr, xs[0], someNumber(chance))
	case set:
		return tree.Words(attr, ws...)
	}
	return tree.Prefix(attr, ws[0])
}

func someTree(chance *rand.Rand, levels int) api.Node {
	if levels == 0 || chance.IntN(5) == 0 {
		return somePred(chance)
	}
	kids := make([]api.Node, 2+chance.IntN(2))
	for i := range kids {
		kids[i] = someTree(chance, levels-1)
	}
	switch chance.IntN(5) {
	case 0, 1:
		return tree.Or(kids...)
	case 2, 3:
		return tree.And(kids...)
	}
	return tree.Not(kids[0])
}

// someText is that of a tree by chance, now and then spoilt.
func someText(chance *rand.Rand, levels int) string {
	line, _ := tree.Text(someTree(chance, chance.IntN(levels+1)))
	if chance.IntN(12) == 0 {
		at := chance.IntN(len(line))
		line = line[:at] + line[at+1:]
	}
	return line
}

// someEvent says something of some attributes, in any order, and now and then what a schema refuses.
func someEvent(chance *rand.Rand) []api.Pair {
	var event []api.Pair
	for _, i := range chance.Perm(4)[:chance.IntN(5)] {
		if i < 2 {
			event = append(event, number(string("ab"[i]), someNumber(chance)))
		} else {
			event = append(event, word(string("cd"[i-2]), someWord(chance)))
		}
	}
	if chance.IntN(12) == 0 {
		bad := badEvents()
		event = append(event, bad[chance.IntN(len(bad))]...)
		chance.Shuffle(len(event), func(i, j int) { event[i], event[j] = event[j], event[i] })
	}
	return event
}

// someCall is of any kind, with all that its kind doesn't use set to something.
func someCall(chance *rand.Rand, levels, ids int) api.Call {
	c := change(1+chance.IntN(4), chance.IntN(ids+2), someText(chance, levels))
	c.Event = someEvent(chance)
	switch chance.IntN(25) {
	case 0:
		c.Kind = otherKinds()[chance.IntN(len(otherKinds()))]
	case 1:
		c.ID = []int{-1, math.MaxInt, math.MinInt, api.MaxID, api.MaxID + 1}[chance.IntN(5)]
	case 2, 3, 4, 5, 6:
		c.Kind = api.Sub
	}
	return c
}

func someCalls(chance *rand.Rand, count int) []api.Call {
	calls := make([]api.Call, count)
	for i := range calls {
		calls[i] = someCall(chance, 2, 6)
	}
	return calls
}

// someLimits are in their ranges, and often small.
func someLimits(chance *rand.Rand) api.Limits {
	return api.Limits{Depth: 2 + chance.IntN(5), Conj: 1 + chance.IntN(9), Subs: 1 + chance.IntN(8), Total: 2 + chance.IntN(30)}
}

// someConfig has numbers of all sizes, out of range too.
func someConfig(chance *rand.Rand, l api.Limits) api.Config {
	some := func() int {
		if chance.IntN(8) == 0 {
			return []int{math.MinInt, -1, 0, 17, math.MaxInt}[chance.IntN(5)]
		}
		return 1 + chance.IntN(16)
	}
	return api.Config{Limits: l, Shards: some(), Queue: some(), Window: some(), Users: some()}
}

// someSubs are conjunctions of subscriptions, of which some have one that isn't normal, some none.
func someSubs(t *testing.T, chance *rand.Rand, count int) [][]api.Conj {
	t.Helper()
	bad := badConjs()
	subs := make([][]api.Conj, count)
	for i := range subs {
		for range chance.IntN(5) {
			var lits []api.Lit
			for range chance.IntN(4) {
				lits = append(lits, api.Lit{Pred: somePred(chance).Pred, Neg: chance.IntN(4) == 0})
			}
			c, e := conj.Make(lits...)
			if e != api.OK {
				t.Fatalf("Make(%v): %d", lits, e)
			}
			subs[i] = append(subs[i], c)
		}
		if chance.IntN(8) == 0 {
			subs[i] = slices.Insert(subs[i], chance.IntN(len(subs[i])+1), bad[chance.IntN(len(bad))])
		}
	}
	return subs
}
