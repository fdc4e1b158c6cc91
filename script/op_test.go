package script_test

import (
	"math"
	"math/rand/v2"
	"slices"
	"testing"

	"trommel/api"
	"trommel/script"
)

// P25.1: each of the seven Kinds in form, by its line.
func TestOpLines(t *testing.T) {
	for _, x := range []struct {
		o    api.Op
		want string
	}{
		{call(0, sub("a {1}")), `call 0 sub "a {1}"`}, {call(7, sub("")), `call 7 sub ""`}, {call(3, replace(1, `c "x"*`)), `call 3 replace 1 "c \"x\"*"`}, {call(1, unsub(9)), `call 1 unsub 9`}, {call(2, match()), `call 2 match`}, {call(0, match(number("a", 1))), `call 0 match a=1`},
		{call(0, match(word("c", "x y"), number("a", -1), word("c", `" "=`), number("a", 0), word("d_9", ""))), `call 0 match c="x y" a=-1 c="\" \"=" a=0 d_9=""`},
		{nums(api.OpStep, 0), "step 0"}, {nums(api.OpStep, 0, -1), "step 0 -1"}, {nums(api.OpStep, math.MinInt, math.MaxInt), "step -9223372036854775808 9223372036854775807"}, {api.Op{Kind: api.OpDrain}, "drain"}, {api.Op{Kind: api.OpStop}, "stop"}, {nums(api.OpArm, 1, 2), "arm 1 2"}, {nums(api.OpArm, -5, 0), "arm -5 0"},
		{nums(api.OpCrash), "crash"}, {nums(api.OpCrash, 7), "crash 7"}, {nums(api.OpCrash, 7, -1, 0), "crash 7 -1 0"}, {api.Op{Kind: api.OpTidy}, "tidy"},
	} {
		writes(t, x.o, x.want)
	}
}

// P25.1: an empty list is as one that is nil.
func TestEmptyLists(t *testing.T) {
	for _, o := range opsInForm() {
		want := wantLine(o)
		if len(o.Nums) == 0 {
			o.Nums = []int{}
		}
		if len(o.Call.Event) == 0 {
			o.Call.Event = []api.Pair{}
		}
		writes(t, o, want)
	}
}

// P25.1: with something set that isn't named for its kind an op isn't in form.
func TestOpNotNamed(t *testing.T) {
	for _, o := range opsInForm() {
		writes(t, o, wantLine(o))
		if o.Kind == api.OpCall {
			for _, list := range [][]int{{0}, {1}, {1, 2}} {
				x := o
				x.Nums = list
				refuses(t, x)
			}
			continue
		}
		for _, who := range edges() {
			if who != 0 {
				x := o
				x.Who = who
				refuses(t, x)
			}
		}
		for _, c := range []api.Call{sub(""), sub("a {1}"), replace(1, ""), unsub(1), match(), match(number("a", 1)), change(0, 1, ""), change(0, -1, ""), change(0, 0, "x"), {Event: []api.Pair{number("a", 1)}}, {Event: []api.Pair{{}}}, change(9, 0, ""), change(-1, 0, "")} {
			x := o
			x.Call = c
			refuses(t, x)
		}
	}
}

// P25.1: Who is 0 to MaxUsers - 1.
func TestWho(t *testing.T) {
	for _, c := range []api.Call{sub("a {1}"), replace(1, "x"), unsub(1), match(), match(number("a", 1))} {
		for _, who := range append(edges(), 3, 4, 5, 6) {
			o := call(who, c)
			if who >= 0 && who < api.MaxUsers {
				writes(t, o, wantLine(o))
			} else {
				refuses(t, o)
			}
		}
	}
}

// P25.1: how many Nums each Kind has: none, one or more, just two, none or more; which ones plays no part.
func TestNums(t *testing.T) {
	for kind := api.OpStep; kind <= api.OpTidy; kind++ {
		for count := range 5 {
			for _, n := range edges() {
				o := nums(kind, slices.Repeat([]int{n}, count)...)
				if kind == api.OpStep && count >= 1 || kind == api.OpArm && count == 2 || kind == api.OpCrash || count == 0 && (kind == api.OpDrain || kind == api.OpStop || kind == api.OpTidy) {
					writes(t, o, wantLine(o))
				} else {
					refuses(t, o)
				}
			}
		}
	}
	for _, kind := range []int{api.OpStep, api.OpCrash} {
		o := nums(kind, edges()...)
		writes(t, o, wantLine(o))
		o = nums(kind, slices.Repeat([]int{-7}, 5000)...)
		writes(t, o, wantLine(o))
	}
}

// P25.1: a Kind that is none, whatever else is set.
func TestNoKind(t *testing.T) {
	for _, kind := range otherKinds() {
		refuses(t, api.Op{Kind: kind})
		for _, o := range opsInForm() {
			o.Kind = kind
			refuses(t, o)
		}
		// Nor may a call be of no Kind. (5 to 7 are an op's alone.)
		for _, other := range []int{kind, 5, 6, 7} {
			refuses(t, call(0, change(other, 0, "")))
			refuses(t, call(0, change(other, 1, "")))
			refuses(t, call(0, change(other, 0, "a {1}")))
			refuses(t, call(0, change(other, 1, "a {1}")))
			refuses(t, call(0, api.Call{Change: api.Change{Kind: other}, Event: []api.Pair{number("a", 1)}}))
		}
	}
}

// P25.1: each Kind of call with each of its fields wrong by itself: an ID, a Text, an Event that it doesn't have.
func TestCallFields(t *testing.T) {
	for _, c := range []api.Call{sub("a {1}"), sub(""), match(), match(number("a", 1))} {
		for _, id := range edges() {
			x := c
			x.ID = id
			if id == 0 {
				writes(t, call(1, x), wantLine(call(1, x)))
			} else {
				refuses(t, call(1, x))
			}
		}
	}
	for _, c := range []api.Call{unsub(1), unsub(api.MaxID), match(), match(number("a", 1))} {
		for _, text := range []string{"a {1}", " ", "x", "\x00", longText} {
			x := c
			x.Text = text
			refuses(t, call(1, x))
		}
	}
	for _, c := range []api.Call{sub("a {1}"), sub(""), replace(1, "a {1}"), replace(1, ""), unsub(1)} {
		for _, event := range [][]api.Pair{{number("a", 1)}, {{}}, {number("a", 1), word("c", "x")}} {
			x := c
			x.Event = event
			refuses(t, call(1, x))
		}
	}
}

// P25.1: the IDs of a Replace and an Unsub are 1 to MaxID.
func TestIDs(t *testing.T) {
	for _, id := range edges() {
		for _, o := range []api.Op{call(0, replace(id, "a {1}")), call(0, replace(id, "")), call(0, unsub(id))} {
			if id >= 1 && id <= api.MaxID {
				writes(t, o, wantLine(o))
			} else {
				refuses(t, o)
			}
		}
	}
}

// P25.1: a Text has any bytes, MaxText of them and no more; it needn't be an expression's.
func TestTexts(t *testing.T) {
	for _, text := range texts() {
		for _, o := range []api.Op{call(0, sub(text)), call(7, replace(1, text))} {
			writes(t, o, wantLine(o))
		}
	}
	for _, text := range []string{longText + "t", longText + "\n", longText + longText, `"` + longText} {
		refuses(t, call(0, sub(text)))
		refuses(t, call(0, replace(1, text)))
	}
}

// P25.1: pairs have names that are names and values in form; they may stand in any order, also twice.
func TestPairs(t *testing.T) {
	for _, n := range []int{api.Least, api.Least + 1, -10, -1, 0, 1, 10, api.Most - 1, api.Most} {
		o := call(0, match(number("a", n), word("b", "x"), number("a", n), number("a", 0)))
		writes(t, o, wantLine(o))
	}
	for _, w := range texts() {
		o := call(0, match(word("c", w), number("a", 1), word("c", w)))
		if len(w) <= api.MaxWord {
			writes(t, o, wantLine(o))
		} else {
			refuses(t, o)
		}
	}
	o := call(0, match(word("z", longWord), number(longName, 1), word("a", longWord[1:]), word("a_9", ""), number("a", 2)))
	writes(t, o, wantLine(o))
	pairs := make([]api.Pair, 3000)
	for i := range pairs {
		pairs[i] = word("c", "x y")
	}
	writes(t, call(0, match(pairs...)), wantLine(call(0, match(pairs...))))
	good := []api.Pair{number("a", 1), word("c", "x")}
	for place := range 3 {
		for _, name := range badNames() {
			refuses(t, call(0, match(slices.Insert(slices.Clone(good), place, number(name, 1))...)))
			refuses(t, call(0, match(slices.Insert(slices.Clone(good), place, word(name, "x"))...)))
		}
		for _, v := range badValues() {
			refuses(t, call(0, match(slices.Insert(slices.Clone(good), place, api.Pair{Name: "a", Value: v})...)))
		}
	}
}

// P25.1: ops by chance, one field of which is set to something else now and then: in form are those that have a line.
func TestOpsByChance(t *testing.T) {
	chance := rand.New(rand.NewPCG(25, 1))
	good, bad := 0, 0
	for range 20000 {
		o := someOp(chance)
		switch chance.IntN(16) {
		case 0:
			o.Kind = chance.IntN(9)
		case 1:
			o.Who = chance.IntN(10) - 1
		case 2:
			o.Call.Kind = chance.IntN(6)
		case 3:
			o.Call.ID = someOf(chance, []int{-1, 0, 1, api.MaxID, api.MaxID + 1})
		case 4:
			o.Call.Text = someOf(chance, []string{"", "x", longText, longText + "x"})
		case 5:
			o.Call.Event = someCall(chance).Event
		case 6:
			o.Nums = []int{1, 2, 3}[:chance.IntN(4)]
		case 7:
			o.Call = someCall(chance)
		}
		if wantInForm(o) {
			good++
			writes(t, o, wantLine(o))
		} else {
			bad++
			refuses(t, o)
		}
	}
	if good < 5000 || bad < 3000 {
		t.Errorf("%d in form, %d not: too few to tell much", good, bad)
	}
}

// wantInForm tells whether an op is in form, of which the pairs are.
func wantInForm(o api.Op) bool {
	c := o.Call
	noCall := c.Kind == 0 && c.ID == 0 && c.Text == "" && len(c.Event) == 0
	id, text := c.ID >= 1 && c.ID <= 1<<40, len(c.Text) <= 4096
	switch o.Kind {
	case 2:
		return o.Who == 0 && noCall && len(o.Nums) > 0
	case 3, 4, 7:
		return o.Who == 0 && noCall && len(o.Nums) == 0
	case 5:
		return o.Who == 0 && noCall && len(o.Nums) == 2
	case 6:
		return o.Who == 0 && noCall
	case 1:
		if o.Who < 0 || o.Who > 7 || len(o.Nums) > 0 {
			return false
		}
	default:
		return false
	}
	switch c.Kind {
	case 1:
		return c.ID == 0 && text && len(c.Event) == 0
	case 2:
		return id && text && len(c.Event) == 0
	case 3:
		return id && c.Text == "" && len(c.Event) == 0
	case 4:
		return c.ID == 0 && c.Text == ""
	}
	return false
}

// P25.1: the example of the chapter.
func TestOpExamples(t *testing.T) {
	if line, e := script.Op(api.Op{Kind: api.OpArm, Nums: []int{1}}); line != "" || e != api.ErrForm {
		t.Errorf("Op = %q, %d", line, e)
	}
	refuses(t, call(8, unsub(1)))
	refuses(t, call(0, unsub(0)))
	refuses(t, nums(api.OpStep))
}
