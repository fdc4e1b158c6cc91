package flow_test

import (
	"math"
	"math/rand/v2"
	"strings"
	"testing"

	"trommel/api"
	"trommel/schema"
	"trommel/tree"
)

var (
	longest = strings.Repeat("w", api.MaxWord)
	most    = api.Limits{Depth: api.MaxDepth, Conj: api.MaxConj, Subs: api.MaxSubs, Total: api.MaxTotal}
	narrow  = api.Limits{Depth: 3, Conj: 4, Subs: 2, Total: 5}
)

// least and greatest are the configs at the ends of their ranges, but for the limits.
var (
	least    = config(most, 1, 1, 1, 1)
	greatest = config(most, api.MaxShards, api.MaxQueue, api.MaxWindow, api.MaxUsers)
)

func config(l api.Limits, shards, queue, window, users int) api.Config {
	return api.Config{Limits: l, Shards: shards, Queue: queue, Window: window, Users: users}
}

func sub(text string) api.Call { return api.Call{Change: subbed(0, text)} }

func replace(id int, text string) api.Call { return api.Call{Change: replaced(id, text)} }

func unsub(id int) api.Call { return api.Call{Change: unsubbed(id)} }

func match(pairs ...api.Pair) api.Call {
	return api.Call{Change: api.Change{Kind: api.Match}, Event: pairs}
}

func subbed(id int, text string) api.Change { return api.Change{Kind: api.Sub, ID: id, Text: text} }

func replaced(id int, text string) api.Change {
	return api.Change{Kind: api.Replace, ID: id, Text: text}
}

func unsubbed(id int) api.Change { return api.Change{Kind: api.Unsub, ID: id} }

func number(name string, n int) api.Pair {
	return api.Pair{Name: name, Value: api.Value{Kind: api.KindInt, Int: n}}
}

func word(name, w string) api.Pair {
	return api.Pair{Name: name, Value: api.Value{Kind: api.KindWord, Word: w}}
}

// code is a refusal.
func code(e api.Errno) api.Answer { return api.Answer{Code: e} }

// given is the answer to a Sub.
func given(id int) api.Answer { return api.Answer{ID: id} }

// met is the answer to a Match.
func met(ids ...int) api.Answer { return api.Answer{IDs: ids} }

var done = api.Answer{}

// attributes is the schema of all texts: a and b are numbers, c and d words.
func attributes(t *testing.T) *schema.Schema {
	t.Helper()
	return schemaOf(t, api.Attr{Name: "a", Kind: api.KindInt}, api.Attr{Name: "b", Kind: api.KindInt}, api.Attr{Name: "c", Kind: api.KindWord}, api.Attr{Name: "d", Kind: api.KindWord})
}

func schemaOf(t *testing.T, attrs ...api.Attr) *schema.Schema {
	t.Helper()
	s, e := schema.New(attrs...)
	if e != api.OK {
		t.Fatal(e)
	}
	return s
}

// wide is a text of some width, and of the depth 2, or 1.
func wide(width int) string { return strings.Repeat("a {1} | ", width-1) + "b {1}" }

// deep is a text of some depth, and of the width 1.
func deep(depth int) string { return strings.Repeat("!", depth-1) + "a {1}" }

// texts are expressions of many shapes, none of them wider than 8 or deeper than 6.
func texts() []string {
	return []string{
		"a {1}", "!a {1}", "!!a {1}", "a {1, 2} & !c \"x\"*", "(a {1} | b {2}) & (a {3} | b {4})", "a {1} & a {3}", "a {1} & !a {1}", "a {1} | !a {1}", "!(a {1} & b {2})", "!(a {1} | b {2})", "!(a {1} & !(b {2} | c {\"x\"}))",
		"a [0, 7]", "a [5, 3]", "!a [5, 3]", "a [5, 3] | b {2}", "a [-2147483648, 2147483647]", "!a [-2147483648, 2147483647]", "a {2147483647} | a {-2147483648}", "a [1, 1] & a {1, 2}", "a [0, 4] & a [2, 9] & !a {3}",
		`c ""*`, `!c ""*`, `c "x"* & c "xy"*`, `c "x"* & c "y"*`, `c {"", "x"} & !c {"x"}`, `c {"x", "xy"} & c "xy"* | d ""* & !c "x"*`, `(c "x"* | d "x"*) & (c "y"* | d "y"*) & (a {1} | b {1})`, `!(c "x"* & d "x"* | a {1} & b {1})`,
		"(a {1} | a {2} | b {1}) & (a {2} | b {2}) & !(a {3} | b {3})", "!(!(a {1} | b {2}) | !(a {1, 2} | c {\"y\"}))", "a {1} & b {1} & c {\"x\"} & d {\"x\"} | !a {1} & !b {1} & !c {\"x\"} & !d {\"x\"}", `c {"\x00\xff\"\\"} | d {"` + longest + `"}`,
	}
}

// badEvents are refused by the schema: an attribute that isn't there, a value out of form, one of another kind, a name twice.
func badEvents() [][]api.Pair {
	list := [][]api.Pair{
		{number("z", 1)}, {number("", 1)}, {number("A", 1)}, {{}}, {word("a", "1")}, {number("c", 1)}, {number("a", 1), number("a", 1)}, {number("a", 1), word("c", "x"), number("a", 2)}, {number("a", 1), number("z", 1)}, {number("z", 1), number("a", 1)},
		{word("c", longest+"w")}, {{Name: "c", Value: api.Value{Kind: api.KindWord, Word: "x", Int: 1}}}, {{Name: "c", Value: api.Value{Kind: 3, Word: "x"}}},
	}
	for _, v := range []api.Value{
		{}, {Kind: api.KindInt, Int: api.Least - 1}, {Kind: api.KindInt, Int: api.Most + 1}, {Kind: api.KindInt, Int: math.MinInt}, {Kind: api.KindInt, Int: 1, Word: "x"}, {Kind: 0, Int: 1}, {Kind: 3, Int: 1}, {Kind: -1},
	} {
		list = append(list, []api.Pair{{Name: "a", Value: v}}, []api.Pair{number("b", 1), {Name: "a", Value: v}})
	}
	return list
}

// fewEvents tell registries apart that differ by little.
func fewEvents() [][]api.Pair {
	return [][]api.Pair{nil, {number("a", 1)}, {number("a", 2), word("c", "xy")}, {number("b", 2), number("a", 3), word("d", "x")}, {word("c", "x")}, {number("z", 1)}}
}

func someNumber(chance *rand.Rand) int {
	if chance.IntN(12) == 0 {
		return []int{api.Least, api.Least + 1, api.Most - 1, api.Most}[chance.IntN(4)]
	}
	return chance.IntN(5) - 1
}

func someWord(chance *rand.Rand) string {
	if chance.IntN(15) == 0 {
		return longest[:api.MaxWord-chance.IntN(2)]
	}
	w := ""
	for range chance.IntN(3) {
		w += string("xy"[chance.IntN(2)])
	}
	return w
}

// somePred asks for what its attribute is, but now and then for what it isn't, or of an attribute that isn't there.
func somePred(chance *rand.Rand) api.Node {
	at := chance.IntN(4)
	attr, numbers := string("abcd"[at]), at < 2
	switch chance.IntN(60) {
	case 0:
		attr = "z"
	case 1:
		numbers = !numbers
	}
	var xs []int
	var ws []string
	for range 1 + chance.IntN(3) {
		xs, ws = append(xs, someNumber(chance)), append(ws, someWord(chance))
	}
	set := chance.IntN(2) == 0
	switch {
	case numbers && set:
		return tree.Ints(attr, xs...)
	case numbers:
		return tree.Range(attr, xs[0], someNumber(chance))
	case set:
		return tree.Words(attr, ws...)
	}
	return tree.Prefix(attr, ws[0])
}

func someTree(chance *rand.Rand, levels int) api.Node {
	if levels == 0 || chance.IntN(5) == 0 {
		return somePred(chance)
	}
	kids := make([]api.Node, 2+chance.IntN(2))
	for i := range kids {
		kids[i] = someTree(chance, levels-1)
	}
	switch chance.IntN(5) {
	case 0, 1:
		return tree.Or(kids...)
	case 2, 3:
		return tree.And(kids...)
	}
	return tree.Not(kids[0])
}

// someText is that of a tree by chance, with more blanks, or round it parentheses, and now and then spoilt.
func someText(chance *rand.Rand, levels int) string {
	line, _ := tree.Text(someTree(chance, chance.IntN(levels+1)))
	switch chance.IntN(12) {
	case 0:
		line = "(" + line + " )"
	case 1:
		line = strings.ReplaceAll(line, " ", "\t\n ")
	case 2:
		at := chance.IntN(len(line))
		line = line[:at] + line[at+1:]
	}
	return line
}

// someEvent says something of some attributes, in any order, and now and then what the schema refuses.
func someEvent(chance *rand.Rand) []api.Pair {
	var event []api.Pair
	for _, i := range chance.Perm(4)[:chance.IntN(5)] {
		if i < 2 {
			event = append(event, number(string("ab"[i]), someNumber(chance)))
		} else {
			event = append(event, word(string("cd"[i-2]), someWord(chance)))
		}
	}
	if chance.IntN(12) == 0 {
		bad := badEvents()
		event = append(event, bad[chance.IntN(len(bad))]...)
	}
	return event
}

// someCall is of any kind, with all that its kind doesn't use set to something.
func someCall(chance *rand.Rand, levels, ids int) api.Call {
	c := api.Call{Change: api.Change{Kind: 1 + chance.IntN(4), ID: chance.IntN(ids + 2), Text: someText(chance, levels)}, Event: someEvent(chance)}
	switch chance.IntN(25) {
	case 0:
		c.Kind = []int{0, 5, -1, math.MaxInt, math.MinInt}[chance.IntN(5)]
	case 1:
		c.ID = []int{-1, math.MaxInt, math.MinInt, api.MaxID, api.MaxID + 1}[chance.IntN(5)]
	case 2, 3, 4, 5, 6:
		c.Kind = api.Sub
	}
	return c
}

// someLimits are in their ranges, and often small.
func someLimits(chance *rand.Rand) api.Limits {
	return api.Limits{Depth: 2 + chance.IntN(5), Conj: 1 + chance.IntN(9), Subs: 1 + chance.IntN(8), Total: 2 + chance.IntN(30)}
}

// someConfig has numbers of all sizes, often small ones.
func someConfig(chance *rand.Rand, l api.Limits) api.Config {
	upTo := func(most int) int {
		if chance.IntN(3) == 0 {
			return 1 + chance.IntN(most)
		}
		return 1 + chance.IntN(3)
	}
	return config(l, upTo(api.MaxShards), upTo(api.MaxQueue), upTo(api.MaxWindow), upTo(api.MaxUsers))
}

// somePick is any, now and then far from 0.
func somePick(chance *rand.Rand) int {
	switch chance.IntN(8) {
	case 0:
		return []int{math.MinInt, math.MinInt + 1, -1, 0, math.MaxInt - 1, math.MaxInt}[chance.IntN(6)]
	case 1:
		return -chance.IntN(100)
	}
	return chance.IntN(100)
}
