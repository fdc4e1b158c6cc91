package shard_test

import (
	"math"
	"math/rand/v2"
	"strings"
	"testing"

	"trommel/api"
	"trommel/conj"
	"trommel/parse"
	"trommel/tree"
)

var longest = strings.Repeat("w", api.MaxWord)

func ints(attr string, xs ...int) api.Pred { return tree.Ints(attr, xs...).Pred }

func words(attr string, ws ...string) api.Pred { return tree.Words(attr, ws...).Pred }

func span(attr string, lo, hi int) api.Pred { return tree.Range(attr, lo, hi).Pred }

func prefix(attr, w string) api.Pred { return tree.Prefix(attr, w).Pred }

func number(name string, n int) api.Pair {
	return api.Pair{Name: name, Value: api.Value{Kind: api.KindInt, Int: n}}
}

func word(name, w string) api.Pair {
	return api.Pair{Name: name, Value: api.Value{Kind: api.KindWord, Word: w}}
}

var always, never = api.Conj{}, api.Conj{Never: true}

func sub(id int, conjs ...api.Conj) api.Task { return api.Task{Kind: api.Sub, ID: id, Conjs: conjs} }

func replace(id int, conjs ...api.Conj) api.Task {
	return api.Task{Kind: api.Replace, ID: id, Conjs: conjs}
}

func unsub(id int) api.Task { return api.Task{Kind: api.Unsub, ID: id} }

func match(pairs ...api.Pair) api.Task { return api.Task{Kind: api.Match, Event: pairs} }

// parsed is the tree of a text.
func parsed(t *testing.T, text string) api.Node {
	t.Helper()
	n, place, e := parse.Parse(text)
	if e != api.OK {
		t.Fatalf("Parse(%s): %d at %d", text, e, place)
	}
	return n
}

// made are the conjunctions of a text.
func made(t *testing.T, text string) []api.Conj {
	t.Helper()
	list, e := conj.All(parsed(t, text), api.MaxConj)
	if e != api.OK {
		t.Fatalf("All(%s): %d", text, e)
	}
	return list
}

// each are so many conjunctions, each of which another event meets: the j-th is met by the number j of a.
func each(count int) []api.Conj {
	var list []api.Conj
	for j := range count {
		list = append(list, api.Conj{Pos: []api.Pred{ints("a", j)}})
	}
	return list
}

// badConjs aren't normal.
func badConjs() []api.Conj {
	one := ints("a", 1)
	return []api.Conj{
		{Never: true, Pos: []api.Pred{one}}, {Never: true, Neg: []api.Pred{one}},
		{Pos: []api.Pred{one, one}}, {Pos: []api.Pred{one, ints("a", 2)}}, {Pos: []api.Pred{ints("b", 1), one}}, {Neg: []api.Pred{one, one}}, {Neg: []api.Pred{ints("a", 2), one}}, {Neg: []api.Pred{span("a", 1, 2), one}},
		{Pos: []api.Pred{ints("a", 2, 1)}}, {Pos: []api.Pred{ints("a", 1, 1)}}, {Pos: []api.Pred{words("a", "y", "x")}}, {Pos: []api.Pred{span("a", 3, 3)}}, {Pos: []api.Pred{span("a", 4, 3)}}, {Pos: []api.Pred{one}, Neg: []api.Pred{span("a", 4, 3)}},
		{Neg: []api.Pred{ints("a", 2, 1)}}, {Neg: []api.Pred{words("a", "x", "x")}}, {Pos: []api.Pred{{}}}, {Neg: []api.Pred{{}}}, {Pos: []api.Pred{ints("a")}}, {Pos: []api.Pred{ints("A", 1)}}, {Pos: []api.Pred{ints("", 1)}},
		{Neg: []api.Pred{ints(strings.Repeat("a", api.MaxName+1), 1)}}, {Pos: []api.Pred{prefix("a", longest+"w")}}, {Pos: []api.Pred{ints("a", api.Most+1)}}, {Neg: []api.Pred{span("a", api.Least-1, 0)}}, {Pos: []api.Pred{{Kind: 7, Attr: "a", Ints: []int{1}}}},
	}
}

// badValues are out of form.
func badValues() []api.Value {
	return []api.Value{
		{}, {Kind: api.KindInt, Int: api.Least - 1}, {Kind: api.KindInt, Int: api.Most + 1}, {Kind: api.KindInt, Int: math.MinInt}, {Kind: api.KindInt, Int: 1<<32 + 1}, {Kind: api.KindInt, Int: 1, Word: "x"},
		{Kind: api.KindWord, Word: longest + "w"}, {Kind: api.KindWord, Word: "x", Int: 1}, {Kind: 0, Int: 1}, {Kind: 3, Int: 1}, {Kind: -1, Word: "x"},
	}
}

// otherKinds are none of a task's.
func otherKinds() []int {
	return []int{0, -1, -4, 5, 6, 7, 99, 1<<32 + api.Sub, 1<<32 + api.Unsub, 1<<32 + api.Match, math.MinInt, math.MaxInt}
}

func someNumber(chance *rand.Rand) int {
	if chance.IntN(12) == 0 {
		return []int{api.Least, api.Least + 1, api.Most - 1, api.Most}[chance.IntN(4)]
	}
	return chance.IntN(5) - 1
}

func someWord(chance *rand.Rand) string {
	if chance.IntN(15) == 0 {
		return longest[:api.MaxWord-chance.IntN(2)]
	}
	w := ""
	for range chance.IntN(3) {
		w += string("xy"[chance.IntN(2)])
	}
	return w
}

// somePred asks for numbers of a and b, for words of all others.
func somePred(chance *rand.Rand, attr string) api.Pred {
	var xs []int
	var ws []string
	for range 1 + chance.IntN(4) {
		xs, ws = append(xs, someNumber(chance)), append(ws, someWord(chance))
	}
	set := chance.IntN(2) == 0
	switch {
	case attr <= "b" && set:
		return ints(attr, xs...)
	case attr <= "b":
		return span(attr, xs[0], someNumber(chance))
	case set:
		return words(attr, ws...)
	}
	return prefix(attr, ws[0])
}

// someConjs are some normal ones over a few attributes, Never or always holding among them.
func someConjs(t *testing.T, chance *rand.Rand, attrs ...string) []api.Conj {
	t.Helper()
	var list []api.Conj
	for range chance.IntN(6) {
		var lits []api.Lit
		for range 1 + chance.IntN(4) {
			lits = append(lits, api.Lit{Pred: somePred(chance, attrs[chance.IntN(len(attrs))]), Neg: chance.IntN(4) == 0})
		}
		c, e := conj.Make(lits...)
		if e != api.OK {
			t.Fatalf("Make(%v): %d", lits, e)
		}
		list = append(list, c)
	}
	return list
}

// someTree is an expression over a few attributes.
func someTree(chance *rand.Rand, levels int, attrs ...string) api.Node {
	if levels == 0 || chance.IntN(6) == 0 {
		return api.Node{Op: api.OpPred, Pred: somePred(chance, attrs[chance.IntN(len(attrs))])}
	}
	kids := make([]api.Node, 2+chance.IntN(2))
	for i := range kids {
		kids[i] = someTree(chance, levels-1, attrs...)
	}
	switch chance.IntN(5) {
	case 0, 1:
		return tree.Or(kids...)
	case 2, 3:
		return tree.And(kids...)
	}
	return tree.Not(kids[0])
}

// someEvent says something of some of the attributes, now and then twice, or out of form.
func someEvent(chance *rand.Rand, attrs ...string) []api.Pair {
	var event []api.Pair
	bad := badValues()
	for range chance.IntN(2 * len(attrs)) {
		name := attrs[chance.IntN(len(attrs))]
		switch {
		case chance.IntN(15) == 0:
			event = append(event, api.Pair{Name: name, Value: bad[chance.IntN(len(bad))]})
		case (name <= "b") != (chance.IntN(15) == 0):
			event = append(event, number(name, someNumber(chance)))
		default:
			event = append(event, word(name, someWord(chance)))
		}
	}
	return event
}

// someTask is one of each kind now and then; IDs out of range, conjunctions that aren't normal and kinds that are none among them.
func someTask(t *testing.T, chance *rand.Rand, attrs ...string) api.Task {
	t.Helper()
	// What a kind doesn't use may have anything in it.
	task := api.Task{ID: 1 + chance.IntN(9), Conjs: someConjs(t, chance, attrs...), Event: someEvent(chance, attrs...)}
	switch chance.IntN(12) {
	case 0:
		task.ID = []int{0, -1, math.MinInt, api.MaxID, api.MaxID - 1, api.MaxID + 1, math.MaxInt}[chance.IntN(7)]
	case 1:
		bad := badConjs()
		task.Conjs = append(task.Conjs, bad[chance.IntN(len(bad))])
		chance.Shuffle(len(task.Conjs), func(i, j int) { task.Conjs[i], task.Conjs[j] = task.Conjs[j], task.Conjs[i] })
	}
	switch chance.IntN(10) {
	case 0, 1, 2:
		task.Kind = api.Sub
	case 3, 4:
		task.Kind = api.Replace
	case 5:
		task.Kind = api.Unsub
	case 6:
		others := otherKinds()
		task.Kind = others[chance.IntN(len(others))]
	default:
		task.Kind = api.Match
	}
	return task
}

// events are a few that tell much of a and c: without pairs, with a name twice, with a value out of form among them.
func events() [][]api.Pair {
	out := api.Pair{Name: "a", Value: api.Value{Kind: api.KindInt, Int: api.Most + 1}}
	return [][]api.Pair{
		nil, {number("a", 0)}, {number("a", 1)}, {number("a", 2)}, {number("a", 3)}, {number("a", 5), word("c", "xy")}, {word("c", "x")}, {number("a", 1), word("c", "y")}, {word("c", "y"), number("a", 1)},
		{number("a", 1), number("a", 2)}, {number("a", 2), number("a", 1), number("a", 1)}, {out}, {out, number("a", 1)}, {number("a", 1), out}, {word("a", "1")}, {{}}, {number("z", 1)},
	}
}
