package shell_test

import (
	"fmt"
	"math"
	"math/rand/v2"
	"slices"
	"strings"
	"testing"

	"trommel/api"
	"trommel/script"
	"trommel/shell"
	"trommel/tree"
)

// plain begins most texts: two shards, queues and windows for one, two users.
const plain = "config 9 9 9 9 2 1 1 2\nattr a int\nattr c word\n"

// lines have a line end behind each.
func lines(list ...string) string {
	var s strings.Builder
	for _, line := range list {
		s.WriteString(line + "\n")
	}
	return s.String()
}

// tells holds what is told of a text, line by line.
func tells(t *testing.T, text string, want ...string) {
	t.Helper()
	if got := shell.Run(text); got != lines(want...) {
		t.Fatalf("of\n%s\nis told\n%s\nand not\n%s", text, got, lines(want...))
	}
}

// plays holds what is told of ops under the plain config.
func plays(t *testing.T, ops []string, want ...string) {
	t.Helper()
	tells(t, plain+lines(ops...), want...)
}

// all is several lists as one.
func all(lists ...[]string) []string { return slices.Concat(lists...) }

// wide is a text of some width, and of the depth 2, or 1.
func wide(width int) string { return strings.Repeat("a {1} | ", width-1) + "a {1}" }

// deep is a text of some depth, and of the width 1.
func deep(depth int) string { return strings.Repeat("!", depth-1) + "a {1}" }

func someOf[T any](chance *rand.Rand, list ...T) T { return list[chance.IntN(len(list))] }

// textOf is a script's text.
func textOf(t *testing.T, s api.Script) string {
	t.Helper()
	text, e := script.Text(s)
	if e != api.OK {
		t.Fatalf("Text(%v) = %d", s, e)
	}
	return text
}

func somePred(chance *rand.Rand) api.Node {
	n := chance.IntN(4)
	switch chance.IntN(12) {
	case 0, 1, 2, 3:
		return tree.Ints("a", n, n+chance.IntN(2))
	case 4, 5:
		return tree.Range("b", n-1, n+1)
	case 6, 7:
		return tree.Words("c", "x", someOf(chance, "", "y", "xy"))
	case 8, 9:
		return tree.Prefix("c", someOf(chance, "", "x", "xy"))
	case 10:
		return tree.Ints("b", n)
	}
	return tree.Ints(someOf(chance, "a", "b", "c", "z"), n)
}

func someTree(chance *rand.Rand, levels int) api.Node {
	if levels == 0 {
		return somePred(chance)
	}
	one, other := someTree(chance, chance.IntN(levels)), someTree(chance, chance.IntN(levels))
	switch chance.IntN(5) {
	case 0, 1:
		return tree.Or(one, other)
	case 2, 3:
		return tree.And(one, other)
	}
	return tree.Not(one)
}

// someText is an expression's, and now and then spoilt.
func someText(chance *rand.Rand) string {
	text, _ := tree.Text(someTree(chance, chance.IntN(4)))
	if chance.IntN(15) == 0 {
		at := chance.IntN(len(text))
		text = text[:at] + text[at+1:]
	}
	return text
}

// someEvent is one, but now and then it has an attribute twice, one that isn't there, or one of another kind.
func someEvent(chance *rand.Rand) []api.Pair {
	var event []api.Pair
	for _, name := range []string{"c", "a", "b", "a", "c", "z"}[chance.IntN(3)/2:][:chance.IntN(4)+chance.IntN(8)/7] {
		v := api.Value{Kind: api.KindInt, Int: chance.IntN(5) - 1}
		if name == "c" && chance.IntN(20) > 0 {
			v = api.Value{Kind: api.KindWord, Word: someOf(chance, "", "x", "y", "xy")}
		}
		event = append(event, api.Pair{Name: name, Value: v})
	}
	return event
}

func someCall(chance *rand.Rand) api.Call {
	id := 1 + chance.IntN(5)
	if chance.IntN(40) == 0 {
		id = api.MaxID
	}
	switch chance.IntN(6) {
	case 0, 1:
		return api.Call{Change: api.Change{Kind: api.Sub, Text: someText(chance)}}
	case 2:
		return api.Call{Change: api.Change{Kind: api.Replace, ID: id, Text: someText(chance)}}
	case 3:
		return api.Call{Change: api.Change{Kind: api.Unsub, ID: id}}
	}
	return api.Call{Change: api.Change{Kind: api.Match}, Event: someEvent(chance)}
}

// someNums are picks, or choices.
func someNums(chance *rand.Rand, count int) []int {
	list := make([]int, count)
	for i := range list {
		list[i] = someOf(chance, 0, 0, -1, chance.IntN(60), chance.IntN(60), chance.IntN(100)-50, math.MinInt, math.MaxInt)
	}
	return list
}

func someOp(chance *rand.Rand, users int) api.Op {
	switch n := chance.IntN(60); {
	case n < 26:
		return api.Op{Kind: api.OpCall, Who: chance.IntN(users), Call: someCall(chance)}
	case n < 28:
		return api.Op{Kind: api.OpCall, Who: chance.IntN(api.MaxUsers), Call: someCall(chance)}
	case n < 41:
		return api.Op{Kind: api.OpStep, Nums: someNums(chance, 1+chance.IntN(30))}
	case n < 46:
		return api.Op{Kind: api.OpDrain}
	case n < 47:
		return api.Op{Kind: api.OpStop}
	case n < 51:
		return api.Op{Kind: api.OpArm, Nums: []int{chance.IntN(8) - 1, chance.IntN(60) - 3}}
	case n < 57:
		return api.Op{Kind: api.OpCrash, Nums: someNums(chance, chance.IntN(3))}
	}
	return api.Op{Kind: api.OpTidy}
}

// someConfig has numbers of all sizes, often small ones.
func someConfig(chance *rand.Rand) api.Config {
	return api.Config{
		Limits: api.Limits{Depth: 2 + chance.IntN(6), Conj: 1 + chance.IntN(9), Subs: 1 + chance.IntN(6), Total: 2 + chance.IntN(20)},
		Shards: 1 + chance.IntN(4), Queue: someOf(chance, 1, 2, 3, 16), Window: someOf(chance, 1, 2, 3, 16), Users: 1 + chance.IntN(4),
	}
}

// someScript is in form.
func someScript(chance *rand.Rand, ops int) api.Script {
	s := api.Script{Config: someConfig(chance), Attrs: []api.Attr{{Name: "b", Kind: api.KindInt}, {Name: "a", Kind: api.KindInt}, {Name: "c", Kind: api.KindWord}}}
	for range ops {
		s.Ops = append(s.Ops, someOp(chance, s.Config.Users))
	}
	return s
}

// someTexts are of scripts, and some of them are spoilt.
func someTexts(t *testing.T, chance *rand.Rand, count int) []string {
	t.Helper()
	texts := make([]string, count)
	for i := range texts {
		texts[i] = textOf(t, someScript(chance, chance.IntN(40)))
		if chance.IntN(5) == 0 {
			at := chance.IntN(len(texts[i]))
			texts[i] = texts[i][:at] + texts[i][at+1:]
		}
	}
	return texts
}

// user is how answers to a user are told.
func user(number int, answers ...string) []string {
	list := make([]string, len(answers))
	for i, a := range answers {
		list[i] = fmt.Sprintf("user %d %s", number, a)
	}
	return list
}
