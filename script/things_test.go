package script_test

import (
	"math"
	"math/rand/v2"
	"slices"
	"strings"

	"trommel/api"
)

var (
	longName = strings.Repeat("n", api.MaxName)
	longWord = strings.Repeat("w", api.MaxWord)
	longText = strings.Repeat("t", api.MaxText)
)

func change(kind, id int, text string) api.Call {
	return api.Call{Change: api.Change{Kind: kind, ID: id, Text: text}}
}

func sub(text string) api.Call { return change(api.Sub, 0, text) }

func replace(id int, text string) api.Call { return change(api.Replace, id, text) }

func unsub(id int) api.Call { return change(api.Unsub, id, "") }

func match(pairs ...api.Pair) api.Call {
	return api.Call{Change: api.Change{Kind: api.Match}, Event: pairs}
}

func number(name string, n int) api.Pair {
	return api.Pair{Name: name, Value: api.Value{Kind: api.KindInt, Int: n}}
}

func word(name, w string) api.Pair {
	return api.Pair{Name: name, Value: api.Value{Kind: api.KindWord, Word: w}}
}

func call(who int, c api.Call) api.Op { return api.Op{Kind: api.OpCall, Who: who, Call: c} }

func nums(kind int, list ...int) api.Op { return api.Op{Kind: kind, Nums: list} }

func intAttr(name string) api.Attr { return api.Attr{Name: name, Kind: api.KindInt} }

func wordAttr(name string) api.Attr { return api.Attr{Name: name, Kind: api.KindWord} }

// edges are ints about all edges that there are.
func edges() []int {
	return []int{math.MinInt, math.MinInt + 1, -1 << 40, -1<<31 - 1, -1 << 31, -10, -9, -2, -1, 0, 1, 2, 7, 8, 9, 10, 99, 100, 1<<31 - 1, 1 << 31, 1 << 32, 1<<40 - 1, 1 << 40, 1<<40 + 1, math.MaxInt - 1, math.MaxInt}
}

// otherKinds are none of an op's, nor of a call's.
func otherKinds() []int {
	return []int{0, -1, -7, 8, 9, 99, 1<<32 + 1, 1<<32 + 4, math.MinInt, math.MaxInt}
}

func allBytes() string {
	b := make([]byte, 256)
	for i := range b {
		b[i] = byte(i)
	}
	return string(b)
}

// texts have quotes, line ends and bytes of every sort.
func texts() []string {
	list := []string{
		"", "a {1}", `c "x"* & !(d {"y z", ""} | a [-1, 7])`, " ", "  ", " a", "a ", "\n", "\r\n", "\x00", `"`, `""`, `\`, `\\`, `\"`, `"\`, `\x0a`, `" "`, ` " `, `a" b`, `"a b" c`, `\" `, `\\ `, "=", "a=1", "\x7f\x80\xff", "é€\U0001F600", "\xc3", allBytes(), "drain", "call 0 sub", "config 1 1 1 1 1 1 1 1\nattr a int\n",
		longText, longText[1:], strings.Repeat("\n", api.MaxText), strings.Repeat(`"`, api.MaxText), strings.Repeat(" ", api.MaxText),
	}
	for c := range 256 {
		list = append(list, string([]byte{byte(c)}), string([]byte{'a', byte(c), ' ', byte(c), 'b'}))
	}
	return list
}

// badNames are no names.
func badNames() []string {
	return []string{"", "A", "9", "_", "_a", "9a", "aA", "a-", "a b", " a", "a ", "a=", "=", "a\n", "\n", "a\x00", `a"`, `"a"`, "é", "aé", "\xff", longName + "n", longText}
}

// badValues are out of form.
func badValues() []api.Value {
	return []api.Value{
		{}, {Kind: api.KindInt, Int: api.Least - 1}, {Kind: api.KindInt, Int: api.Most + 1}, {Kind: api.KindInt, Int: math.MinInt}, {Kind: api.KindInt, Int: math.MaxInt}, {Kind: api.KindInt, Int: 1, Word: "x"}, {Kind: api.KindInt, Word: "1"},
		{Kind: api.KindWord, Word: longWord + "w"}, {Kind: api.KindWord, Word: "x", Int: 1}, {Kind: api.KindWord, Int: -1}, {Kind: 0, Int: 1}, {Kind: 3, Int: 1}, {Kind: 0, Word: "x"}, {Kind: 3, Word: "x"}, {Kind: -1}, {Kind: 1<<32 + 1},
	}
}

// opsInForm are some of each kind.
func opsInForm() []api.Op {
	return []api.Op{
		call(0, sub("a {1}")), call(7, sub("")), call(3, replace(1, `c "x"*`)), call(1, replace(api.MaxID, "")), call(2, unsub(1)), call(0, unsub(api.MaxID)), call(0, match()), call(4, match(number("a", 1))), call(5, match(word("c", "x y"), number("a", -1), word("c", `" "=`), number("a", 0))),
		nums(api.OpStep, 0), nums(api.OpStep, 0, -1, math.MaxInt, math.MinInt), {Kind: api.OpDrain}, {Kind: api.OpStop}, nums(api.OpArm, 1, 2), nums(api.OpArm, -1, 0), nums(api.OpCrash), nums(api.OpCrash, 5), nums(api.OpCrash, -1, 0, 7), {Kind: api.OpTidy},
	}
}

func someOf[T any](chance *rand.Rand, list []T) T { return list[chance.IntN(len(list))] }

func someName(chance *rand.Rand) string {
	if chance.IntN(10) == 0 {
		return longName
	}
	name := string("abz"[chance.IntN(3)])
	for range chance.IntN(4) {
		name += string("az09_"[chance.IntN(5)])
	}
	return name
}

func someText(chance *rand.Rand, most int) string {
	if chance.IntN(12) == 0 {
		return strings.Repeat(string([]byte{byte(chance.IntN(256))}), most)
	}
	b := make([]byte, chance.IntN(12))
	for i := range b {
		b[i] = someOf(chance, []byte("  \"\\=xn0a\n\x00\xff~"))
	}
	return string(b)
}

func someNumber(chance *rand.Rand) int {
	if chance.IntN(3) == 0 {
		return someOf(chance, edges())
	}
	return chance.IntN(40) - 20
}

func someCall(chance *rand.Rand) api.Call {
	id := someOf(chance, []int{1, 2, 9, 10, 1 << 32, api.MaxID - 1, api.MaxID})
	switch chance.IntN(4) {
	case 0:
		return sub(someText(chance, api.MaxText))
	case 1:
		return replace(id, someText(chance, api.MaxText))
	case 2:
		return unsub(id)
	}
	var pairs []api.Pair
	for range chance.IntN(5) {
		if chance.IntN(2) == 0 {
			pairs = append(pairs, number(someName(chance), someOf(chance, []int{api.Least, -10, -1, 0, 1, 10, api.Most})))
		} else {
			pairs = append(pairs, word(someName(chance), someText(chance, api.MaxWord)))
		}
	}
	return match(pairs...)
}

func someOp(chance *rand.Rand) api.Op {
	kind := 1 + chance.IntN(7)
	var list []int
	for range chance.IntN(6) {
		list = append(list, someNumber(chance))
	}
	switch kind {
	case api.OpCall:
		return call(chance.IntN(api.MaxUsers), someCall(chance))
	case api.OpStep:
		return nums(kind, append(list, someNumber(chance))...)
	case api.OpArm:
		return nums(kind, someNumber(chance), someNumber(chance))
	case api.OpCrash:
		return nums(kind, list...)
	}
	return api.Op{Kind: kind}
}

func someConfig(chance *rand.Rand) api.Config {
	n := func() int { return someNumber(chance) }
	return api.Config{Limits: api.Limits{Depth: n(), Conj: n(), Subs: n(), Total: n()}, Shards: n(), Queue: n(), Window: n(), Users: n()}
}

// someScript is in form.
func someScript(chance *rand.Rand) api.Script {
	s := api.Script{Config: someConfig(chance)}
	for range chance.IntN(5) {
		a := api.Attr{Name: someName(chance), Kind: 1 + chance.IntN(2)}
		if !slices.ContainsFunc(s.Attrs, func(b api.Attr) bool { return a.Name == b.Name }) {
			s.Attrs = append(s.Attrs, a)
		}
	}
	for range chance.IntN(8) {
		s.Ops = append(s.Ops, someOp(chance))
	}
	return s
}
