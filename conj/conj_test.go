package conj_test

import (
	"cmp"
	"math"
	"math/rand/v2"
	"slices"
	"strconv"
	"testing"
	"unsafe"

	"trommel/api"
	"trommel/conj"
	"trommel/dnf"
	"trommel/eval"
	"trommel/tree"
)

// P9.1: the chapter's examples.
func TestExamples(t *testing.T) {
	c := mustMake(t, lits(t, `a {3, 1, 5}; a [2, 9]; c "x"*; c "xy"*; !a {3}`)...)
	if written(c) != `a {3, 5}; c "xy"*; !a {3}` || conj.Count(c) != 2 {
		t.Errorf("Make = %v", c)
	}
	for _, s := range []string{"a {1}; a {2}", `c "x"*; c "y"*`, "a [5, 3]"} {
		if c := mustMake(t, lits(t, s)...); written(c) != "never" {
			t.Errorf("Make(%s) = %v", s, c)
		}
	}
	c = mustMake(t, lits(t, "!a [5, 3]")...)
	if !sameConj(c, api.Conj{}) || !conj.Holds(c, nil) || !conj.Holds(c, []api.Pair{number("a", 4)}) {
		t.Errorf("Make = %v", c)
	}
	if p, ok := conj.Meet(span("a", 1, 5), span("a", 5, 9)); !ok || !samePred(p, ints("a", 5)) {
		t.Errorf("Meet = %v, %t", p, ok)
	}
	if p, ok := conj.Meet(ints("a", 1), ints("b", 1)); ok || !samePred(p, api.Pred{}) {
		t.Errorf("Meet = %v, %t", p, ok)
	}
	if p, ok := conj.Normal(ints("a", 2, 1, 2)); !ok || !samePred(p, ints("a", 1, 2)) {
		t.Errorf("Normal = %v, %t", p, ok)
	}
}

// P9.1: Normal of each kind: members unsorted and told twice, ranges of one number and of none, the greatest sets.
func TestNormal(t *testing.T) {
	var down, same []int
	var texts []string
	for i := range api.MaxSet {
		down, same = append(down, 1000-i), append(same, 7)
		texts = append(texts, strconv.Itoa(99-i))
	}
	up, upTexts := slices.Clone(down), slices.Clone(texts)
	slices.Sort(up)
	slices.Sort(upTexts)
	for _, c := range []struct{ p, want api.Pred }{
		{ints("a", 3), ints("a", 3)}, {ints("a", 3, 1, 5), ints("a", 1, 3, 5)}, {ints("a", 2, 1, 2), ints("a", 1, 2)}, {ints("a", 1, 1, 1), ints("a", 1)}, {ints("a", 1, 2, 3), ints("a", 1, 2, 3)},
		{ints("a", 10, 9, -10, -9, 0), ints("a", -10, -9, 0, 9, 10)}, {ints("a", api.Most, api.Least, api.Most), ints("a", api.Least, api.Most)}, {ints("a", down...), ints("a", up...)}, {ints("a", same...), ints("a", 7)},
		{words("c", "x"), words("c", "x")}, {words("c", "y", "x", "y"), words("c", "x", "y")}, {words("c", "xy", "x", "", "Z", "\xff", "é"), words("c", "", "Z", "x", "xy", "é", "\xff")}, {words("c", "10", "9"), words("c", "10", "9")},
		{words("c", "", ""), words("c", "")}, {words("c", longest, "w", longest), words("c", "w", longest)}, {words("c", texts...), words("c", upTexts...)},
		{span("a", 3, 3), ints("a", 3)}, {span("a", 0, 0), ints("a", 0)}, {span("a", api.Least, api.Least), ints("a", api.Least)}, {span("a", api.Most, api.Most), ints("a", api.Most)},
		{span("a", 3, 4), span("a", 3, 4)}, {span("a", -1, 0), span("a", -1, 0)}, {span("a", api.Least, api.Most), span("a", api.Least, api.Most)}, {span("a", api.Most-1, api.Most), span("a", api.Most-1, api.Most)},
		{prefix("c", ""), prefix("c", "")}, {prefix("c", "xy"), prefix("c", "xy")}, {prefix("c", longest), prefix("c", longest)},
	} {
		if got, ok := conj.Normal(c.p); !ok || !samePred(got, c.want) {
			t.Errorf("Normal(%v) = %v, %t, not %v", c.p, got, ok, c.want)
		}
	}
	none := append(badPreds(), span("a", 5, 3), span("a", 4, 3), span("a", 0, -1), span("a", api.Most, api.Least))
	for _, p := range none {
		if got, ok := conj.Normal(p); ok || !samePred(got, api.Pred{}) {
			t.Errorf("Normal(%v) = %v, %t", p, got, ok)
		}
	}
}

// P9.1, P9.3: Normal of all of the pool, which holds just where the predicate does, and is its own normal one.
func TestNormalKeepsTruth(t *testing.T) {
	for _, p := range append(pool("a"), badPreds()...) {
		got, ok := conj.Normal(p)
		want, good := wantNormal(p)
		if ok != good || ok && !samePred(got, want) || ok && !normalPred(got) {
			t.Errorf("Normal(%v) = %v, %t", p, got, ok)
		}
		for _, event := range append(events("a"), events(p.Attr)...) {
			if eval.Holds(got, event) != eval.Holds(p, event) {
				t.Errorf("Normal(%v) = %v isn't as it was under %v", p, got, event)
			}
		}
		if again, still := conj.Normal(got); still != ok || !samePred(again, got) {
			t.Errorf("Normal(%v) = %v, %t", got, again, still)
		}
	}
}

// P9.1: predicates in their order, each behind all ahead of it, in form or not.
func TestCompare(t *testing.T) {
	rising := []api.Pred{
		{Kind: math.MinInt}, {}, {Lo: 1}, {Ints: []int{0}}, {Kind: math.MaxInt},
		ints("A", 1), {Kind: -1, Attr: "a", Ints: []int{9}}, {Attr: "a"}, {Kind: api.PredInts, Attr: "a"}, {Kind: api.PredInts, Attr: "a", Words: []string{"x"}},
		ints("a", math.MinInt), ints("a", api.Least), ints("a", -2), ints("a", -1), ints("a", -1, -1), ints("a", -1, 0), ints("a", 1), ints("a", 1, 2), ints("a", 1, 2, 0), ints("a", 1, 3), ints("a", 2), ints("a", 2, 1), ints("a", 9), ints("a", 10), ints("a", math.MaxInt),
		words("a"), words("a", ""), words("a", "", ""), words("a", "10"), words("a", "9"), words("a", "Z"), words("a", "x"), words("a", "x", ""), words("a", "x", "a"), words("a", "xa"), words("a", "y"), words("a", "é"), words("a", "\xff"),
		{Kind: api.PredWords, Attr: "a", Ints: []int{0}, Words: []string{"a"}},
		span("a", math.MinInt, math.MaxInt), span("a", -1, 0), span("a", -1, 5), span("a", 0, -1), span("a", 0, 0), span("a", 0, 9), span("a", 0, 10), span("a", 1, math.MinInt), span("a", 1, 0), span("a", math.MaxInt, 0),
		{Kind: api.PredRange, Attr: "a", Words: []string{""}, Lo: -5}, {Kind: api.PredRange, Attr: "a", Ints: []int{-7}, Lo: -9},
		prefix("a", ""), prefix("a", "x"), prefix("a", "xy"), prefix("a", "y"), {Kind: 5, Attr: "a"}, ints("a1", 0), ints("a_", 0), ints("aa", 0), ints("b", -9), prefix("\xff", ""),
	}
	for i, a := range rising {
		for j, b := range rising {
			if got := conj.Compare(a, b); got != cmp.Compare(i, j) || got != ahead(a, b) {
				t.Errorf("Compare(%v, %v) = %d", a, b, got)
			}
		}
	}
	none, some := api.Pred{Kind: 7, Ints: []int{}, Words: []string{}}, api.Pred{Kind: 7}
	if conj.Compare(none, some) != 0 || conj.Compare(some, none) != 0 {
		t.Error("an empty list is as one that is nil")
	}
	others := append(pool("a"), append(pool("b"), badPreds()...)...)
	for _, a := range others {
		for _, b := range others {
			if got := conj.Compare(a, b); got != ahead(a, b) || got != -conj.Compare(b, a) {
				t.Errorf("Compare(%v, %v) = %d", a, b, got)
			}
		}
	}
}

// P9.1: what some predicates come to.
func TestMeet(t *testing.T) {
	for _, c := range []struct{ preds, want string }{
		{"a {3}", "a {3}"}, {"a {5, 1, 5}", "a {1, 5}"}, {"a [2, 2]", "a {2}"}, {"a [2, 3]", "a [2, 3]"}, {`c "x"*`, `c "x"*`}, {`c {"y", "x"}`, `c {"x", "y"}`}, {"a [5, 3]", ""},
		{"a {1, 2, 3}; a {3, 2, 9}", "a {2, 3}"}, {"a {1}; a {2}", ""}, {"a {3}; a {3}", "a {3}"}, {"a {3, 1, 5}; a [2, 9]", "a {3, 5}"}, {"a [2, 9]; a {3, 1, 5}", "a {3, 5}"}, {"a [2, 9]; a {1, 10}", ""},
		{"a [2, 9]; a {9, 2, 1, 10}", "a {2, 9}"}, {"a {1, 2}; a [5, 3]", ""}, {"a [1, 9]; a [5, 3]", ""}, {"a [5, 3]; a [3, 5]", ""}, {"a [1, 5]; a [5, 9]", "a {5}"}, {"a [5, 9]; a [1, 5]", "a {5}"}, {"a [1, 4]; a [5, 9]", ""},
		{"a [1, 6]; a [5, 9]", "a [5, 6]"}, {"a [1, 9]; a [3, 5]", "a [3, 5]"}, {"a [1, 9]; a [1, 9]", "a [1, 9]"}, {"a [1, 5]; a [5, 9]; a [4, 6]", "a {5}"}, {"a [1, 6]; a [4, 9]; a [6, 7]", "a {6}"}, {"a [1, 5]; a [5, 9]; a [6, 9]", ""},
		{"a [1, 9]; a {4}; a [3, 5]; a {4, 5, 9}", "a {4}"}, {"a [-2147483648, 2147483647]; a [-2147483648, 2147483647]", "a [-2147483648, 2147483647]"}, {"a [-2147483648, 0]; a [0, 2147483647]", "a {0}"}, {"a [2147483647, 2147483647]; a [0, 2147483647]", "a {2147483647}"},
		{`c "x"*; c "xy"*`, `c "xy"*`}, {`c "xy"*; c "x"*`, `c "xy"*`}, {`c "x"*; c "y"*`, ""}, {`c "xy"*; c "xz"*`, ""}, {`c "xy"*; c "y"*`, ""}, {`c ""*; c ""*`, `c ""*`}, {`c ""*; c "x"*`, `c "x"*`}, {`c "x"*; c "x"*`, `c "x"*`},
		{`c "x"*; c "xyz"*; c "xy"*`, `c "xyz"*`}, {`c "xyz"*; c "x"*; c "xa"*`, ""}, {`c "xa"*; c "xyz"*; c "x"*`, ""},
		{`c {"xy", "x", "y"}; c "x"*`, `c {"x", "xy"}`}, {`c "x"*; c {"xy", "x", "y"}`, `c {"x", "xy"}`}, {`c "x"*; c {"xy", "x", "xyz"}; c "xy"*`, `c {"xy", "xyz"}`}, {`c {"x"}; c "xy"*`, ""}, {`c {"", "x"}; c ""*`, `c {"", "x"}`},
		{`c {"a", "b"}; c {"b", "c"}`, `c {"b"}`}, {`c {"a"}; c {"b"}`, ""}, {`c {"b", "a"}; c {"a", "b"}; c {"b", "a", "b"}`, `c {"a", "b"}`},
		{`a {1}; a {"1"}`, ""}, {`a {"1"}; a {1}`, ""}, {`a [0, 9]; a {""}`, ""}, {`a {""}; a [0, 9]`, ""}, {`a [0, 9]; a ""*`, ""}, {`a ""*; a [0, 9]`, ""}, {`a {0}; a ""*`, ""}, {`a ""*; a {0}`, ""}, {`a {0}; a [0, 9]; a ""*`, ""},
		{"a {1}; b {1}", ""}, {"a [1, 5]; b [1, 5]", ""}, {`a "x"*; b "x"*`, ""}, {`a {"x"}; b {"x"}`, ""}, {"a {1}; a {1}; b {1}", ""}, {"b {1}; a {1}; a {1}", ""},
	} {
		var preds []api.Pred
		for _, l := range lits(t, c.preds) {
			preds = append(preds, l.Pred)
		}
		var want api.Pred
		if c.want != "" {
			want = pred(t, c.want)
		}
		if got, ok := conj.Meet(preds...); ok != (c.want != "") || !samePred(got, want) {
			t.Errorf("Meet(%s) = %v, %t, not %s", c.preds, got, ok, c.want)
		}
	}
	if got, ok := conj.Meet(); ok || !samePred(got, api.Pred{}) {
		t.Errorf("Meet() = %v, %t", got, ok)
	}
}

// P9.1: one predicate out of form, wherever it stands, leaves nothing.
func TestMeetOutOfForm(t *testing.T) {
	for _, bad := range badPreds() {
		for _, good := range []api.Pred{ints("a", 1, 0), span("a", 0, 9), words("c", "x", ""), prefix("c", "")} {
			for _, preds := range [][]api.Pred{{bad}, {bad, bad}, {bad, good}, {good, bad}, {good, good, bad}, {good, bad, good}, {span("a", 5, 3), bad}} {
				if got, ok := conj.Meet(preds...); ok || !samePred(got, api.Pred{}) {
					t.Errorf("Meet(%v) = %v, %t", preds, got, ok)
				}
			}
		}
	}
}

// P9.1, P9.3: Meet of all twos and threes of the pool: what the chapter tells, just where all hold, whatever their order.
func TestMeetByTruth(t *testing.T) {
	all, list := append(pool("a"), ints("b", 3), badPreds()[6]), events("a")
	hold := make([][]bool, len(all))
	for i, p := range all {
		for _, event := range list {
			hold[i] = append(hold[i], eval.Holds(p, event))
		}
	}
	some := 0
	for i, a := range all {
		for j, b := range all {
			for k, c := range all {
				got, ok := conj.Meet(a, b, c)
				want, good := wantMeet(a, b, c)
				if ok != good || ok && !samePred(got, want) || !ok && !samePred(got, api.Pred{}) || ok && !normalPred(got) {
					t.Fatalf("Meet(%v, %v, %v) = %v, %t, not %v, %t", a, b, c, got, ok, want, good)
				}
				if two, also := conj.Meet(a, b); k == 0 {
					want, good := wantMeet(a, b)
					if also != good || also && !samePred(two, want) {
						t.Fatalf("Meet(%v, %v) = %v, %t", a, b, two, also)
					}
				}
				if !ok && (a.Attr != b.Attr || b.Attr != c.Attr) {
					continue
				}
				for e, event := range list {
					if eval.Holds(got, event) != (hold[i][e] && hold[j][e] && hold[k][e]) {
						t.Fatalf("Meet(%v, %v, %v) = %v is wrong under %v", a, b, c, got, event)
					}
				}
				if ok {
					some++
				}
				for _, turned := range [][]api.Pred{{c, a, b}, {b, a, c}, {a, b, c, a, c}} {
					if other, still := conj.Meet(turned...); still != ok || !samePred(other, got) {
						t.Fatalf("Meet(%v) = %v, %t, not %v", turned, other, still, got)
					}
				}
			}
		}
	}
	if some < 1000 {
		t.Errorf("only %d meet: too few to tell much", some)
	}
}

// P9.1: which conjunction Make makes.
func TestMake(t *testing.T) {
	for _, c := range []struct{ lits, want string }{
		{"", ""}, {"a {1}", "a {1}"}, {"!a {1}", "!a {1}"}, {"a {2, 1, 2}", "a {1, 2}"}, {"!a {2, 1, 2}", "!a {1, 2}"}, {"a [3, 3]", "a {3}"}, {"!a [3, 3]", "!a {3}"}, {"a [3, 4]; !a [3, 4]", "a [3, 4]; !a [3, 4]"},
		{"a {1}; a {1}", "a {1}"}, {"!a {1}; !a {1}", "!a {1}"}, {"!a {1}; !a [1, 1]; !a {1, 1}", "!a {1}"}, {"a {1}; !a {1}", "a {1}; !a {1}"}, {"!a {1}; a {1}; !a {1}; a {1}", "a {1}; !a {1}"},
		{"b {2}; a {1}", "a {1}; b {2}"}, {"c {3}; a {1}; b {2}; a {1, 2}", "a {1}; b {2}; c {3}"}, {"aa {1}; a {1}; a_ {1}; a1 {1}; b {1}", "a {1}; a1 {1}; a_ {1}; aa {1}; b {1}"},
		{"!b {2}; !a {2}; !a {1}; !a {1, 2}", "!a {1}; !a {1, 2}; !a {2}; !b {2}"}, {`!a "x"*; !a [1, 2]; !a {"x"}; !a {7}`, `!a {7}; !a {"x"}; !a [1, 2]; !a "x"*`}, {"!a {1, 2}; !a {1}; !a {2}", "!a {1}; !a {1, 2}; !a {2}"},
		{"!a [1, 9]; !a [1, 5]; !a [0, 9]", "!a [0, 9]; !a [1, 5]; !a [1, 9]"}, {`!c "xy"*; !c "x"*; !c {"xy"}; !c {"x"}`, `!c {"x"}; !c {"xy"}; !c "x"*; !c "xy"*`},
		{"a [5, 3]", "never"}, {"!a [5, 3]", ""}, {"!a [5, 3]; !a {1}; !b [1, 0]", "!a {1}"}, {"a {1}; !a [5, 3]", "a {1}"}, {"a {1}; a [5, 3]", "never"}, {"a {1}; a {2}; b {1}", "never"}, {"b {1}; a {1}; b {2}", "never"}, {"!c {1}; a {1}; !b {3}; a {2}", "never"},
		{"a {1}; b [2, 1]; c {4}", "never"}, {`a {1}; a "1"*`, "never"}, {`a [1, 2]; a {"x"}; b {1}`, "never"}, {"a {1}; b {2}; !c [7, 9]; a [0, 1]; b [2, 2]; !c {8}", "a {1}; b {2}; !c {8}; !c [7, 9]"},
		{`a {3, 1, 5}; a [2, 9]; c "x"*; c "xy"*; !a {3}`, `a {3, 5}; c "xy"*; !a {3}`}, {`!a {3}; c "xy"*; a [2, 9]; c "x"*; a {3, 1, 5}`, `a {3, 5}; c "xy"*; !a {3}`},
	} {
		got := mustMake(t, lits(t, c.lits)...)
		if written(got) != c.want || got.Never != (c.want == "never") || conj.Check(got) != api.OK {
			t.Errorf("Make(%s) = %v, not %s", c.lits, got, c.want)
		}
	}
}

// P9.1: Make refuses a predicate out of form, wherever it stands, negated or not, ahead of all else.
func TestMakeOutOfForm(t *testing.T) {
	good, never := lits(t, "a {1}; !a {2}"), lits(t, "a {1}; a {2}")
	for _, bad := range badPreds() {
		for _, l := range []api.Lit{yes(bad), not(bad)} {
			for _, list := range [][]api.Lit{{l}, {l, l}, append([]api.Lit{l}, good...), append(slices.Clone(good), l), append(slices.Clone(never), l), append([]api.Lit{l}, never...), {good[0], l, good[1]}} {
				if got, e := conj.Make(list...); e != api.ErrForm || !sameConj(got, api.Conj{}) {
					t.Errorf("Make(%v) = %v, %d", list, got, e)
				}
			}
		}
	}
}

// few are literals of two attributes, which meet one another now and then.
func few(t *testing.T) []api.Lit {
	return lits(t, `a {3, 1, 5}; a {3}; a {5, 1}; a [2, 9]; a [5, 9]; a [3, 3]; a [1, 0]; a {"x"}; c "x"*; c "xy"*; c {"xy", "x", "xy"}; c "y"*; `+
		`!a {3}; !a [3, 3]; !a {5, 3}; !a [4, 9]; !a [9, 4]; !c "xy"*; !c {"x", "y"}; !c {"y", "x", "y"}`)
}

// fewEvents say something of both, of one, or of none.
func fewEvents() [][]api.Pair {
	out := [][]api.Pair{nil, {word("a", "x")}, {number("c", 1)}, {{Name: "a"}, number("a", 3)}, {number("a", 3), number("a", 4)}}
	for _, n := range []int{0, 1, 3, 4, 5, 9} {
		out = append(out, []api.Pair{number("a", n)})
		for _, w := range []string{"", "x", "xy", "xyz", "y"} {
			out = append(out, []api.Pair{number("a", n), word("c", w)}, []api.Pair{word("c", w)})
		}
	}
	return out
}

// holdMake holds Make of literals in form to P9.1, P9.2 and P9.4.
func holdMake(t *testing.T, list []api.Lit, under [][]api.Pair) api.Conj {
	t.Helper()
	c := mustMake(t, list...)
	if want := wantConj(list); !sameConj(c, want) || !isNormal(c) || conj.Check(c) != api.OK {
		t.Fatalf("Make(%v) = %v, not %v", list, c, want)
	}
	for _, event := range under {
		if conj.Holds(c, event) != dnf.Holds(event, list...) {
			t.Fatalf("Make(%v) = %v is wrong under %v", list, c, event)
		}
	}
	names := []string{}
	for _, l := range list {
		if !l.Neg && !slices.Contains(names, l.Attr) {
			names = append(names, l.Attr)
		}
	}
	if c.Never {
		return c
	}
	if conj.Count(c) != len(names) {
		t.Fatalf("Count(%v) = %d of %v", c, conj.Count(c), names)
	}
	var own []api.Lit
	for _, p := range c.Pos {
		own = append(own, yes(p))
	}
	for _, p := range c.Neg {
		own = append(own, not(p))
	}
	if again := mustMake(t, own...); !sameConj(again, c) {
		t.Fatalf("made again of its own literals %v is %v", c, again)
	}
	return c
}

// P9.2, P9.4: all threes of few literals, in every order, one told twice.
func TestMakeOfThree(t *testing.T) {
	all, under := few(t), fewEvents()
	nevers, others := 0, 0
	for i, a := range all {
		for j, b := range all[:i+1] {
			for _, c := range all[:j+1] {
				made := holdMake(t, []api.Lit{a, b, c}, under)
				if made.Never {
					nevers++
				} else {
					others++
				}
				for _, turned := range [][]api.Lit{{a, c, b}, {b, a, c}, {b, c, a}, {c, a, b}, {c, b, a}, {b, c, a, c}, {a, a, b, b, c, c}} {
					if other := mustMake(t, turned...); !sameConj(other, made) {
						t.Fatalf("Make(%v) = %v, not %v", turned, other, made)
					}
				}
			}
		}
	}
	if nevers < 100 || others < 100 {
		t.Errorf("%d are never, %d aren't: too lopsided to tell much", nevers, others)
	}
}

// P9.2, P9.4: longer lists of literals over more attributes, shuffled.
func TestMakeOfMany(t *testing.T) {
	chance := rand.New(rand.NewPCG(9, 2))
	var all []api.Lit
	for _, attr := range []string{"a", "b", "c", "d"} {
		for _, p := range pool(attr) {
			all = append(all, yes(p), not(p))
		}
	}
	values := values()
	nevers := 0
	for range 4000 {
		var list []api.Lit
		for range chance.IntN(9) {
			l := all[chance.IntN(len(all))]
			l.Neg = l.Neg || chance.IntN(3) == 0
			list = append(list, l)
		}
		var under [][]api.Pair
		for range 20 {
			var event []api.Pair
			for _, attr := range []string{"a", "b", "c", "d"} {
				if chance.IntN(5) > 0 {
					event = append(event, api.Pair{Name: attr, Value: values[chance.IntN(len(values))]})
				}
			}
			under = append(under, event)
		}
		made := holdMake(t, list, under)
		if made.Never {
			nevers++
		}
		turned := append(slices.Clone(list), list[:len(list)/2]...)
		chance.Shuffle(len(turned), func(i, j int) { turned[i], turned[j] = turned[j], turned[i] })
		if other := mustMake(t, turned...); !sameConj(other, made) {
			t.Fatalf("Make(%v) = %v, not %v", turned, other, made)
		}
	}
	if nevers < 200 || nevers > 3800 {
		t.Errorf("%d of 4000 are never: too lopsided to tell much", nevers)
	}
}

// P9.1: what Check takes, and what it refuses: a fault at the first place, in the midst, at the last one.
func TestCheck(t *testing.T) {
	good := []api.Conj{
		{}, {Never: true}, {Pos: []api.Pred{}, Neg: []api.Pred{}}, {Never: true, Pos: []api.Pred{}, Neg: []api.Pred{}}, {Pos: []api.Pred{ints("a", 1)}}, {Neg: []api.Pred{ints("a", 1)}}, {Pos: []api.Pred{ints("a", 1)}, Neg: []api.Pred{ints("a", 1)}},
		{Pos: []api.Pred{ints("a", 1, 2), span("b", 1, 2), words("c", "x", "y"), prefix("d", "")}, Neg: []api.Pred{ints("a", 1), ints("a", 1, 2), ints("a", 2), words("a", "x"), span("a", 1, 2), span("a", 1, 3), prefix("a", ""), prefix("a", "x"), ints("b", 0)}},
		{Pos: []api.Pred{prefix("a", "x"), ints("a0", 1), ints("a_", 0), ints("aa", -5)}}, {Pos: []api.Pred{span("a", api.Least, api.Most)}}, {Pos: []api.Pred{ints("a", api.Least, api.Most)}}, {Pos: []api.Pred{words("a", "", longest)}},
	}
	for _, c := range good {
		if e := conj.Check(c); e != api.OK || !isNormal(c) {
			t.Errorf("Check(%v) = %d", c, e)
		}
	}
	one := ints("a", 1)
	bad := []api.Conj{
		{Never: true, Pos: []api.Pred{one}}, {Never: true, Neg: []api.Pred{one}}, {Never: true, Pos: []api.Pred{one}, Neg: []api.Pred{one}}, {Never: true, Pos: []api.Pred{{}}},
		{Pos: []api.Pred{one, one}}, {Pos: []api.Pred{one, ints("a", 2)}}, {Pos: []api.Pred{ints("b", 1), one}}, {Pos: []api.Pred{one, ints("b", 1), ints("b", 1, 2)}}, {Pos: []api.Pred{one, ints("c", 1), ints("b", 1)}}, {Pos: []api.Pred{ints("aa", 1), ints("a", 1)}},
		{Neg: []api.Pred{one, one}}, {Neg: []api.Pred{ints("a", 2), one}}, {Neg: []api.Pred{ints("a", 1, 2), one}}, {Neg: []api.Pred{span("a", 1, 2), one}}, {Neg: []api.Pred{ints("b", 1), one}}, {Neg: []api.Pred{one, ints("a", 2), ints("a", 2)}}, {Neg: []api.Pred{span("a", 1, 3), span("a", 1, 2)}},
		{Neg: []api.Pred{prefix("a", "x"), prefix("a", "")}}, {Neg: []api.Pred{words("a", "x", "y"), words("a", "x")}}, {Neg: []api.Pred{one, span("a", 5, 9), span("a", 4, 9)}},
	}
	wrong := append(badPreds(), ints("b", 1, 1), ints("b", 2, 1), ints("b", 1, 3, 2), words("b", "x", "x"), words("b", "y", "x"), words("b", "xy", "x"), span("b", 3, 3), span("b", 4, 3))
	for _, p := range wrong {
		bad = append(bad, api.Conj{Pos: []api.Pred{p}}, api.Conj{Neg: []api.Pred{p}}, api.Conj{Pos: []api.Pred{one, p}}, api.Conj{Neg: []api.Pred{one, p}}, api.Conj{Pos: []api.Pred{one, p, ints("z", 1)}}, api.Conj{Pos: []api.Pred{one}, Neg: []api.Pred{one, p, ints("z", 1)}}, api.Conj{Pos: []api.Pred{p}, Neg: []api.Pred{one}})
	}
	for _, c := range bad {
		if e := conj.Check(c); e != api.ErrForm || isNormal(c) {
			t.Errorf("Check(%v) = %d", c, e)
		}
	}
}

// P9.1: Count and Holds of conjunctions made by hand, normal or not.
func TestCountAndHolds(t *testing.T) {
	one, two, bad := ints("a", 2, 1, 2), ints("a", 2), ints("a")
	at := func(n int) []api.Pair { return []api.Pair{number("a", n)} }
	for _, c := range []struct {
		c     api.Conj
		count int
		event []api.Pair
		want  bool
	}{
		{api.Conj{}, 0, nil, true}, {api.Conj{}, 0, at(1), true}, {api.Conj{Never: true}, 0, nil, false}, {api.Conj{Never: true}, 0, at(1), false}, {api.Conj{Never: true, Pos: []api.Pred{one, two}}, 2, at(2), false}, {api.Conj{Never: true, Neg: []api.Pred{one}}, 0, at(9), false},
		{api.Conj{Pos: []api.Pred{one}}, 1, nil, false}, {api.Conj{Pos: []api.Pred{one}}, 1, at(1), true}, {api.Conj{Pos: []api.Pred{one}}, 1, at(3), false}, {api.Conj{Neg: []api.Pred{one}}, 0, nil, true}, {api.Conj{Neg: []api.Pred{one}}, 0, at(1), false}, {api.Conj{Neg: []api.Pred{one}}, 0, at(3), true},
		{api.Conj{Pos: []api.Pred{one, two}}, 2, at(2), true}, {api.Conj{Pos: []api.Pred{one, two}}, 2, at(1), false}, {api.Conj{Pos: []api.Pred{two, one}}, 2, at(1), false}, {api.Conj{Pos: []api.Pred{one, one, one}}, 3, at(1), true}, {api.Conj{Pos: []api.Pred{one}, Neg: []api.Pred{two}}, 1, at(1), true}, {api.Conj{Pos: []api.Pred{one}, Neg: []api.Pred{two}}, 1, at(2), false},
		{api.Conj{Neg: []api.Pred{two, one}}, 0, at(1), false}, {api.Conj{Neg: []api.Pred{one, two}}, 0, at(1), false}, {api.Conj{Pos: []api.Pred{bad}}, 1, at(1), false}, {api.Conj{Neg: []api.Pred{bad}}, 0, at(1), true}, {api.Conj{Pos: []api.Pred{one, bad}}, 2, at(1), false}, {api.Conj{Pos: []api.Pred{one}, Neg: []api.Pred{bad, bad}}, 1, at(1), true},
		{api.Conj{Pos: []api.Pred{span("a", 5, 3)}}, 1, at(4), false}, {api.Conj{Neg: []api.Pred{span("a", 5, 3)}}, 0, at(4), true}, {api.Conj{Pos: []api.Pred{one, words("c", "x")}}, 2, []api.Pair{word("c", "x"), number("a", 1)}, true}, {api.Conj{Pos: []api.Pred{one, words("c", "x")}}, 2, at(1), false},
		{api.Conj{Pos: []api.Pred{one}}, 1, []api.Pair{number("a", 9), number("a", 1)}, false}, {api.Conj{Pos: []api.Pred{one}}, 1, []api.Pair{number("a", 1), number("a", 9)}, true}, {api.Conj{Neg: []api.Pred{one}}, 0, []api.Pair{{Name: "a"}, number("a", 1)}, true}, {api.Conj{Pos: []api.Pred{one}}, 1, []api.Pair{word("a", "1")}, false},
		{api.Conj{Pos: []api.Pred{{}}}, 1, []api.Pair{{}}, false}, {api.Conj{Neg: []api.Pred{{}}}, 0, []api.Pair{{}}, true},
	} {
		if got := conj.Count(c.c); got != c.count {
			t.Errorf("Count(%v) = %d", c.c, got)
		}
		if got := conj.Holds(c.c, c.event); got != c.want {
			t.Errorf("Holds(%v, %v) = %t", c.c, c.event, got)
		}
	}
}

// P9.1: All of some expressions, in the order of their conjunctions.
func TestAll(t *testing.T) {
	for _, c := range []struct {
		text string
		want []string
	}{
		{"a {2, 1}", []string{"a {1, 2}"}}, {"!a {2, 1}", []string{"!a {1, 2}"}}, {"a [5, 3]", []string{"never"}}, {"!a [5, 3]", []string{""}}, {"a {1} | a {1}", []string{"a {1}", "a {1}"}},
		{"(a {1} | b {2}) & (a {3} | b {4})", []string{"never", "a {1}; b {4}", "a {3}; b {2}", "never"}}, {"b {1} & !(a {1} & c {1})", []string{"b {1}; !a {1}", "b {1}; !c {1}"}},
		{"a {3} | (b {2} | a [1, 1]) & !c {4, 3}", []string{"a {3}", "b {2}; !c {3, 4}", "a {1}; !c {3, 4}"}}, {"a [1, 5] & (a [5, 9] | !a [6, 5])", []string{"a {5}", "a [1, 5]"}},
	} {
		got, e := conj.All(text(t, c.text), 4)
		var texts []string
		for _, one := range got {
			texts = append(texts, written(one))
		}
		if e != api.OK || !slices.Equal(texts, c.want) {
			t.Errorf("All(%s) = %q, %d, not %q", c.text, texts, e, c.want)
		}
	}
}

// P9.1: All's errors are Expand's, in their order; beside one there is nothing.
func TestAllErrors(t *testing.T) {
	refuse := func(n api.Node, most int, want api.Errno) {
		t.Helper()
		if got, e := conj.All(n, most); e != want || len(got) != 0 {
			t.Errorf("All(%v, %d) = %v, %d, not %d", n, most, got, e, want)
		}
	}
	a := tree.Ints("a", 1)
	var bad []api.Node
	for _, p := range badPreds() {
		bad = append(bad, leaf(p), tree.Not(leaf(p)), tree.Or(a, leaf(p)), tree.And(leaf(p), a))
	}
	bad = append(bad, api.Node{}, node(api.OpAnd, a), node(api.OpOr), node(api.OpNot, a, a), node(7, a, a), api.Node{Op: api.OpNot, Pred: a.Pred, Kids: []api.Node{a}})
	for _, n := range bad {
		for _, most := range []int{1, 64, 0, 65, math.MaxInt} {
			refuse(n, most, api.ErrForm)
		}
	}
	two := tree.Or(a, tree.Ints("b", 1))
	for _, most := range []int{0, -1, 65, 1<<32 + 1, math.MaxInt, math.MinInt} {
		refuse(a, most, api.ErrRange)
		refuse(two, most, api.ErrRange)
	}
	refuse(two, 1, api.ErrTooWide)
	refuse(tree.And(two, two, two, two, two, two, two), 64, api.ErrTooWide)
	refuse(tree.And(two, two), 3, api.ErrTooWide)
	if got, e := conj.All(tree.And(two, two, two, two, two, two), 64); e != api.OK || len(got) != 64 {
		t.Errorf("All of just 64: %d, %d", len(got), e)
	}
}

// P9.1, P9.4: All of many trees is Make of each of Expand's; an event makes the tree true just if it meets one of them.
func TestAllKeepsTruth(t *testing.T) {
	chance := rand.New(rand.NewPCG(9, 4))
	all, under := few(t), fewEvents()
	var grow func(depth int) api.Node
	grow = func(depth int) api.Node {
		if depth == 0 || chance.IntN(4) == 0 {
			return leaf(all[chance.IntN(len(all))].Pred)
		}
		switch chance.IntN(3) {
		case 0:
			return tree.Not(grow(depth - 1))
		case 1:
			return tree.And(grow(depth-1), grow(depth-1))
		}
		return tree.Or(grow(depth-1), grow(depth-1), grow(depth-1))
	}
	good, count := 0, 0
	for range 3000 {
		n := grow(4)
		most := 1 + chance.IntN(api.MaxConj)
		got, e := conj.All(n, most)
		spread, f := dnf.Expand(n, most)
		if e != f || len(got) != len(spread) {
			t.Fatalf("All(%v, %d) = %v, %d, not %d", n, most, got, e, f)
		}
		if e != api.OK {
			continue
		}
		good++
		for i, c := range got {
			if want := wantConj(spread[i]); !sameConj(c, want) {
				t.Fatalf("All(%v) has %v, not %v", n, c, want)
			}
		}
		for _, event := range under {
			met := slices.ContainsFunc(got, func(c api.Conj) bool { return conj.Holds(c, event) })
			if met != eval.Eval(n, event) {
				t.Fatalf("All(%v) = %v is wrong under %v", n, got, event)
			}
			if met {
				count++
			}
		}
	}
	if good < 1000 || count < good*len(under)/5 || count > good*len(under)*4/5 {
		t.Errorf("%d trees, %d of %d true: too lopsided to tell much", good, count, good*len(under))
	}
}

// Rule 1: very many predicates and literals, very deep and very broad trees.
func TestGreat(t *testing.T) {
	full := []int{}
	for i := range api.MaxSet {
		full = append(full, i*2)
	}
	preds := slices.Repeat([]api.Pred{ints("a", full...), span("a", -5, 500)}, 50000)
	if got, ok := conj.Meet(preds...); !ok || !samePred(got, ints("a", full...)) {
		t.Errorf("Meet of many = %v, %t", got, ok)
	}
	if got, ok := conj.Meet(append(preds, ints("a", 1))...); ok || !samePred(got, api.Pred{}) {
		t.Errorf("Meet of many = %v, %t", got, ok)
	}
	var list []api.Lit
	for i := range 100000 {
		list = append(list, yes(ints("n"+strconv.Itoa(99999-i), i)), not(ints("a", 99999-i/2)))
	}
	c := mustMake(t, list...)
	if conj.Count(c) != 100000 || len(c.Neg) != 50000 || conj.Check(c) != api.OK || !samePred(c.Neg[0], ints("a", 50000)) || !samePred(c.Pos[1], ints("n1", 99998)) || conj.Holds(c, nil) {
		t.Error("Make of many")
	}
	c.Pos = nil
	if !conj.Holds(c, []api.Pair{number("a", 49999)}) || conj.Holds(c, []api.Pair{number("a", 99999)}) {
		t.Error("Holds of many")
	}
	deep, right := leaf(ints("a", 1)), tree.Or(leaf(ints("a", 1)), leaf(ints("b", 1)))
	for range 1<<16 - 2 {
		deep, right = node(api.OpNot, deep), node(api.OpAnd, leaf(span("a", 1, 3)), right)
	}
	if got, e := conj.All(deep, 1); e != api.OK || len(got) != 1 || written(got[0]) != "a {1}" {
		t.Errorf("All of negations = %v, %d", got, e)
	}
	if got, e := conj.All(right, 2); e != api.OK || len(got) != 2 || written(got[0]) != "a {1}" || written(got[1]) != "a [1, 3]; b {1}" {
		t.Errorf("All of nested Ands = %v, %d", got, e)
	}
	broad := append(slices.Repeat([]api.Node{leaf(words("c", "y", "x"))}, 100000), tree.Or(leaf(prefix("c", "x")), tree.Not(leaf(prefix("c", "x")))))
	if got, e := conj.All(node(api.OpAnd, broad...), 2); e != api.OK || len(got) != 2 || written(got[0]) != `c {"x"}` || written(got[1]) != `c {"x", "y"}; !c "x"*` {
		t.Errorf("All of a broad And = %v, %d", got, e)
	}
}

// block is where a list lies, its spare room too.
type block struct{ from, to uintptr }

func blockOf[T any](list []T) block {
	from := uintptr(unsafe.Pointer(unsafe.SliceData(list)))
	return block{from, from + uintptr(cap(list))*unsafe.Sizeof(*new(T))}
}

func predBlocks(preds ...api.Pred) []block {
	var out []block
	for _, p := range preds {
		out = append(out, blockOf(p.Ints), blockOf(p.Words))
	}
	return out
}

// conjBlocks are those of all lists of conjunctions.
func conjBlocks(conjs ...api.Conj) []block {
	out := []block{blockOf(conjs)}
	for _, c := range conjs {
		out = append(out, blockOf(c.Pos), blockOf(c.Neg))
		out = append(out, predBlocks(c.Pos...)...)
		out = append(out, predBlocks(c.Neg...)...)
	}
	return out
}

// treeBlocks are those of all lists of a tree.
func treeBlocks(n api.Node) []block {
	out := append(predBlocks(n.Pred), blockOf(n.Kids))
	for _, kid := range n.Kids {
		out = append(out, treeBlocks(kid)...)
	}
	return out
}

// holdApart tells of lists that share memory.
func holdApart(t *testing.T, all ...[]block) {
	t.Helper()
	found := slices.DeleteFunc(slices.Concat(all...), func(b block) bool { return b.from == b.to })
	slices.SortFunc(found, func(a, b block) int { return cmp.Compare(a.from, b.from) })
	for i := 1; i < len(found); i++ {
		if found[i].from < found[i-1].to {
			t.Error("two lists share memory")
		}
	}
}

// Rule 5: no two lists of what was handed in and of what Normal and Meet answered share memory.
func TestPredsAreNew(t *testing.T) {
	for _, p := range []api.Pred{ints("a", 1, 2, 3), ints("a", 2, 1, 2), words("c", "x", "y"), words("c", "y"), span("a", 3, 3), span("a", 3, 4), prefix("c", "x")} {
		one, _ := conj.Normal(p)
		two, _ := conj.Normal(p)
		single, _ := conj.Meet(p)
		double, _ := conj.Meet(p, p)
		holdApart(t, predBlocks(p, one, two, single, double))
	}
	for _, preds := range [][]api.Pred{
		{ints("a", 1, 2, 3), span("a", 2, 9)}, {span("a", 2, 9), ints("a", 1, 2, 3)}, {ints("a", 1, 2), ints("a", 2, 1)}, {span("a", 1, 5), span("a", 5, 9)}, {words("c", "x", "xy"), prefix("c", "x")}, {prefix("c", "x"), words("c", "x", "xy")},
		{words("c", "x"), words("c", "y", "x")}, {prefix("c", "x"), prefix("c", "xy")}, {prefix("c", "xy"), prefix("c", "x")}, {prefix("c", "xy"), prefix("c", "xy")},
	} {
		one, ok := conj.Meet(preds...)
		two, _ := conj.Meet(preds...)
		if !ok {
			t.Errorf("%v don't meet", preds)
		}
		holdApart(t, predBlocks(preds...), predBlocks(one, two))
	}
}

// Rule 5: nor of what Make and All answered, conjunction by conjunction, predicate by predicate.
func TestConjsAreNew(t *testing.T) {
	list := lits(t, `a {1, 2}; b [3, 3]; c "x"*; d {"x", "y"}; d "x"*; !a {1, 2}; !b [3, 3]; !c "x"*; !d {"y", "x"}; !a {1, 2}`)
	list = append(list, list...)
	one, two := mustMake(t, list...), mustMake(t, list...)
	var own []block
	for _, l := range list[:10] {
		own = append(own, predBlocks(l.Pred)...)
	}
	holdApart(t, own, []block{blockOf(list)}, conjBlocks(one), conjBlocks(two))
	n := tree.And(text(t, `a {1, 2} & (b {1} | b {2} | !c {"x"}) & d "x"*`), tree.Or(tree.Ints("a", 1, 2), tree.Not(tree.Ints("a", 1, 2))))
	first, e := conj.All(n, 6)
	second, _ := conj.All(n, 6)
	if e != api.OK || len(first) != 6 {
		t.Fatalf("All = %v, %d", first, e)
	}
	holdApart(t, treeBlocks(n), conjBlocks(first...), conjBlocks(second...))
	first[0].Pos[0].Ints[0] = 77
	first[0].Pos = append(first[0].Pos, ints("z", 1))
	first[1].Neg = append(first[1].Neg, ints("z", 1))
	third, _ := conj.All(n, 6)
	if !slices.EqualFunc(second, third, sameConj) || !sameConj(first[2], third[2]) {
		t.Error("written into one conjunction, seen in another")
	}
}

// Rule 5: what is handed in stays as it was, the room behind it too.
func TestHandedInIsLeft(t *testing.T) {
	numbers, texts := []int{5, 3, 5, 1, 9}, []string{"y", "x", "y", "xy", "z"}
	a, c := api.Pred{Kind: api.PredInts, Attr: "a", Ints: numbers[:4]}, api.Pred{Kind: api.PredWords, Attr: "c", Words: texts[:4]}
	begin := api.Pred{Kind: api.PredPrefix, Attr: "c", Words: texts[1:2]}
	preds := []api.Pred{a, span("a", 2, 9), c, begin}
	list := []api.Lit{not(c), yes(c), yes(begin), yes(a), not(a), not(c), yes(ints("z", 8))}
	kids := []api.Node{leaf(a), node(api.OpNot, leaf(c)), leaf(begin), tree.Ints("z", 7)}
	n := api.Node{Op: api.OpOr, Kids: kids[:3]}
	hand := api.Conj{Pos: []api.Pred{c, a, span("z", 1, 1)}, Neg: []api.Pred{c, begin, a, a}}
	hand.Pos, hand.Neg = hand.Pos[:2], hand.Neg[:3]
	event := []api.Pair{word("c", "xy"), number("a", 5), number("a", 4), word("b", "q")}
	beforePreds, beforeList, beforeKids, beforeEvent := slices.Clone(preds), slices.Clone(list), tree.Or(kids...), slices.Clone(event)
	beforePos, beforeNeg := slices.Clone(hand.Pos[:3]), slices.Clone(hand.Neg[:4])

	spoil := func(p api.Pred) {
		p.Ints, p.Words = append(p.Ints, 70), append(p.Words, "more")
		p.Ints[0], p.Words[0] = 71, "changed"
	}
	for _, p := range preds {
		got, _ := conj.Normal(p)
		spoil(got)
	}
	for _, some := range [][]api.Pred{preds[:1], preds[:2], preds[2:3], preds[2:4], {span("a", 2, 9), a, a}, {begin, c}} {
		got, ok := conj.Meet(some...)
		if !ok {
			t.Errorf("%v don't meet", some)
		}
		spoil(got)
	}
	made, _ := conj.Make(list[:6]...)
	all, _ := conj.All(n, 3)
	for _, got := range append(all, made) {
		for _, p := range slices.Concat(got.Pos, got.Neg) {
			spoil(p)
		}
	}
	conj.Compare(a, c)
	conj.Check(hand)
	conj.Count(hand)
	conj.Holds(hand, event[:3])
	if !slices.Equal(numbers, []int{5, 3, 5, 1, 9}) || !slices.Equal(texts, []string{"y", "x", "y", "xy", "z"}) || !slices.Equal(event, beforeEvent) ||
		!slices.EqualFunc(preds, beforePreds, samePred) || !slices.EqualFunc(list, beforeList, func(a, b api.Lit) bool { return a.Neg == b.Neg && samePred(a.Pred, b.Pred) }) ||
		!tree.Same(tree.Or(kids...), beforeKids) || !slices.EqualFunc(hand.Pos[:3], beforePos, samePred) || !slices.EqualFunc(hand.Neg[:4], beforeNeg, samePred) {
		t.Errorf("changed: %v, %v, %v, %v, %v, %v, %v", numbers, texts, preds, list, kids, hand, event)
	}
}
