package book_test

import (
	"math"
	"slices"
	"strings"
	"testing"

	"trommel/api"
	"trommel/book"
	"trommel/schema"
)

// P16.1: the chapter's examples.
func TestExamples(t *testing.T) {
	s, e := schema.New(api.Attr{Name: "a", Kind: api.KindInt}, api.Attr{Name: "b", Kind: api.KindInt})
	if e != api.OK {
		t.Fatal(e)
	}
	b := book.New(api.Limits{Depth: 3, Conj: 4, Subs: 2, Total: 5}, s)
	for i, c := range []struct {
		call              api.Call
		want              api.Answer
		subs, total, next int
	}{
		{sub("a {1}"), given(1), 1, 1, 2},
		{sub("a {1} | b {2} | b {3}"), given(2), 2, 4, 3},
		{sub("b {1}"), code(api.ErrTooMany), 2, 4, 3},
		{replace(1, "(a {1} | a {2}) & b {1}"), done, 2, 5, 3},
		{replace(1, "a {1} | a {2} | a {3}"), code(api.ErrTooMany), 2, 5, 3},
		{unsub(2), done, 1, 2, 3},
		{sub("!a {9}"), given(3), 2, 3, 4},
		{match(number("a", 1), number("b", 1)), met(1, 3), 2, 3, 4},
		{match(number("c", 1)), code(api.ErrKind), 2, 3, 4},
		{replace(9, "a {"), code(api.ErrSyntax), 2, 3, 4},
		{sub("!!!a {1}"), code(api.ErrTooDeep), 2, 3, 4},
	} {
		if got := b.Do(c.call); len(got) != 1 || !sameAnswer(got[0], c.want) {
			t.Errorf("call %d is answered %v, not %v", i, got, c.want)
		}
		if b.Subs() != c.subs || b.Total() != c.total || b.Next() != c.next {
			t.Errorf("behind call %d: Subs %d, Total %d, Next %d", i, b.Subs(), b.Total(), b.Next())
		}
	}
	if !slices.Equal(b.IDs(), []int{1, 3}) || !slices.Equal(b.Changes(), []api.Change{subbed(1, "(a {1} | a {2}) & b {1}"), subbed(3, "!a {9}")}) {
		t.Errorf("IDs %v, Changes %v", b.IDs(), b.Changes())
	}
}

// P16.1: the examples of DOC.md that a registry bears.
func TestExamplesOfTheWhole(t *testing.T) {
	p := newPair(t, most)
	got := p.do(sub("a {1}"), sub("!a {1}"), match(number("a", 1)), replace(2, "a [0, 9]"), match(number("a", 1)), unsub(1), match(number("a", 1)), sub("a {1}"))
	if !slices.EqualFunc(got, []api.Answer{given(1), given(2), met(1), done, met(1, 2), done, met(2), given(3)}, sameAnswer) {
		t.Errorf("answered is %v", got)
	}
	p = newPair(t, api.Limits{Depth: 3, Conj: 4, Subs: 1, Total: 9})
	if got := p.do(sub("a {1}"), sub("a {2}"), replace(1, "a {3}")); !slices.EqualFunc(got, []api.Answer{given(1), code(api.ErrTooMany), done}, sameAnswer) {
		t.Errorf("answered is %v", got)
	}
	p = newPair(t, most)
	p.do(sub(`a {1, 2} & !c "x"*`))
	p.answered(met(1), match(number("a", 1)))
	p.answered(met(1), match(number("a", 2), word("c", "y")))
	p.answered(met(), match(number("a", 1), word("c", "xy")))
	p.answered(met(), match(word("c", "y")))
}

// P16.1: what a registry of nothing tells.
func TestEmpty(t *testing.T) {
	for _, l := range []api.Limits{most, {Depth: 1, Conj: 1}, {Depth: 3, Conj: 4, Subs: 2, Total: 5}} {
		p := newPair(t, l)
		for range 2 {
			if b := p.b; b.Subs() != 0 || b.Total() != 0 || b.Next() != 1 || len(b.IDs()) != 0 || len(b.Changes()) != 0 || len(b.Do()) != 0 || b.Apply() != api.OK || b.Start(1) != api.OK {
				t.Error("nothing was registered")
			}
			for _, id := range []int{math.MinInt, -1, 0, 1, 2, api.MaxID, math.MaxInt} {
				if text, ok := p.b.Text(id); text != "" || ok || len(p.b.Conjs(id)) != 0 {
					t.Errorf("Text(%d) = %q, %v", id, text, ok)
				}
			}
			for _, event := range events() {
				p.answered(met(), match(event...))
			}
			p.refused(api.ErrNoSub, unsub(1))
			p.refused(api.ErrNoSub, replace(1, "a {1}"))
			for _, event := range badEvents() {
				p.refused(api.ErrKind, match(event...))
			}
		}
	}
}

// P16.1: no calls are answered by nothing, and change nothing.
func TestNoCalls(t *testing.T) {
	p := newPair(t, most)
	p.do(sub("a {1}"), sub("a {2} | b {1}"))
	before := told(p.b)
	if len(p.b.Do()) != 0 || len(p.b.Do([]api.Call{}...)) != 0 || len(p.b.Do(nil...)) != 0 || !sameTold(before, told(p.b)) {
		t.Error("no calls have done something")
	}
	p.apply(api.OK)
	p.apply(api.OK, []api.Change{}...)
}

// P16.1: a call of another Kind, whatever else it says.
func TestNoKind(t *testing.T) {
	p := newPair(t, most)
	p.do(sub("a {1}"), sub("a {2} | b {1}"))
	for _, kind := range []int{0, 5, 6, -1, -4, 1 << 32, 1<<32 + 1, math.MaxInt, math.MinInt} {
		for _, c := range []api.Change{{}, {ID: 1}, {ID: 1, Text: "a {1}"}, {ID: 9, Text: "a {"}, {Text: "z {1}"}, {Text: deep(40)}, {Text: wide(65)}} {
			c.Kind = kind
			p.refused(api.ErrForm, api.Call{Change: c})
			p.refused(api.ErrForm, api.Call{Change: c, Event: []api.Pair{number("a", 1)}})
			p.refused(api.ErrForm, api.Call{Change: c, Event: []api.Pair{number("z", 1)}})
		}
	}
}

// P16.1: the calls of a row are done each ahead of the next; one at a time they are answered alike.
func TestRow(t *testing.T) {
	row := []api.Call{
		match(number("a", 1)), sub("a {1}"), match(number("a", 1)), sub("a {"), sub("a {1, 2} | b {2}"), match(number("a", 1)), replace(1, "a {2}"), match(number("a", 1)), match(number("a", 2)), unsub(2), match(number("a", 2)), unsub(2), replace(2, "a {1}"), {}, sub("!a {1}"), match(), match(number("z", 1)),
	}
	want := []api.Answer{
		met(), given(1), met(1), code(api.ErrSyntax), given(2), met(1, 2), done, met(2), met(1, 2), done, met(1), code(api.ErrNoSub), code(api.ErrNoSub), code(api.ErrForm), given(3), met(3), code(api.ErrKind),
	}
	one, many := newPair(t, most), newPair(t, most)
	if got := one.do(row...); !slices.EqualFunc(got, want, sameAnswer) {
		t.Errorf("answered is %v", got)
	}
	for i, c := range row {
		many.answered(want[i], c)
	}
	if !sameTold(told(one.b), told(many.b)) {
		t.Error("a row isn't the same as its calls")
	}
}

// P16.1, P5: texts that are none of the language, whatever else is wrong.
func TestSyntax(t *testing.T) {
	p := newPair(t, api.Limits{Depth: 2, Conj: 2, Subs: 1, Total: 1})
	for range 2 {
		for _, text := range badTexts() {
			p.refused(api.ErrSyntax, sub(text))
			for _, id := range []int{1, 2, 0, -1} {
				p.refused(api.ErrSyntax, replace(id, text))
			}
		}
		// And once more with a registry that is full.
		p.do(sub("a {1}"))
	}
}

// spoilt is a text with the faults that are told, and no others: the limits are Depth 3 and Conj 2.
func spoilt(syntax, deep, kind, wide bool) string {
	text := "a {1}"
	if kind {
		text = "z {1}"
	}
	if wide {
		text += " | a {2} | b {3}"
	}
	if deep {
		text = "!!!!(" + text + ")"
	}
	if syntax {
		text += " &"
	}
	return text
}

// P16.1, P5: of all faults together the one that comes first is answered, at Sub and at Replace.
func TestErrorsInOrder(t *testing.T) {
	for faults := range 1 << 4 {
		syntax, deep, kind, wide := faults&1 != 0, faults&2 != 0, faults&4 != 0, faults&8 != 0
		text, want := spoilt(syntax, deep, kind, wide), api.OK
		switch {
		case syntax:
			want = api.ErrSyntax
		case deep:
			want = api.ErrTooDeep
		case kind:
			want = api.ErrKind
		case wide:
			want = api.ErrTooWide
		}
		for _, l := range []api.Limits{{Depth: 3, Conj: 2, Subs: 2, Total: 2}, {Depth: 3, Conj: 2, Subs: 1, Total: 2}, {Depth: 3, Conj: 2, Subs: 2, Total: 1}} {
			p := newPair(t, l)
			p.do(sub("b {7}"))
			full := l.Subs == 1 || l.Total == 1
			if want != api.OK {
				p.refused(want, sub(text))
				p.refused(want, replace(1, text))
				p.refused(want, replace(9, text))
				p.start(api.OK, api.MaxID+1)
				p.refused(want, sub(text))
				continue
			}
			p.refused(api.ErrNoSub, replace(9, text))
			p.answered(done, replace(1, text))
			if full {
				p.refused(api.ErrTooMany, sub(text))
			} else {
				p.answered(given(2), sub(text))
			}
		}
	}
}

// P16.1, P5: ErrNoSub ahead of ErrTooMany; of a Replace the number of subscriptions and Next play no part.
func TestNoSubAheadOfTooMany(t *testing.T) {
	p := newPair(t, api.Limits{Depth: 2, Conj: 3, Subs: 2, Total: 3})
	p.do(sub("a {1}"), sub(wide(2)))
	for _, id := range []int{0, -1, -2, 3, 9, api.MaxID, api.MaxID + 1, math.MaxInt, math.MinInt} {
		p.refused(api.ErrNoSub, replace(id, wide(3)))
		p.refused(api.ErrNoSub, replace(id, "a {1}"))
		p.refused(api.ErrNoSub, unsub(id))
	}
	p.refused(api.ErrTooMany, replace(1, wide(3)))
	p.refused(api.ErrTooMany, replace(1, wide(2)))
	p.refused(api.ErrTooMany, replace(2, wide(3)))
	p.start(api.OK, api.MaxID+1)
	p.answered(done, replace(2, `c "x"*`))
	p.answered(done, replace(1, wide(2)))
}

// P16.1: Replace and Unsub of numbers that aren't there, that went, of 0, of negative ones.
func TestNotThere(t *testing.T) {
	p := newPair(t, most)
	p.do(sub("a {1}"), sub("a {2}"), sub("a {3}"), unsub(2))
	for range 2 {
		for _, id := range []int{2, 4, 0, -1, -3, 1 << 32, 1<<32 + 1, api.MaxID, api.MaxID + 1, math.MaxInt, math.MinInt} {
			p.refused(api.ErrNoSub, replace(id, "b {1}"))
			p.refused(api.ErrNoSub, unsub(id))
		}
		p.do(replace(1, "a {5}"))
	}
	p.answered(done, unsub(3))
	p.refused(api.ErrNoSub, unsub(3))
	p.answered(done, unsub(1))
	p.refused(api.ErrNoSub, replace(1, "b {1}"))
	p.answered(given(4), sub("a {1}"))
}

// P16.1: what a kind doesn't use, set to anything, plays no part.
func TestUnused(t *testing.T) {
	junk := append([][]api.Pair{nil, {number("a", 2)}}, badEvents()...)
	junkTexts := append([]string{"a {9}", "z {1}", deep(40), wide(65)}, badTexts()...)
	p := newPair(t, most)
	next := 1
	for _, event := range junk {
		for _, id := range []int{0, 1, -1, 7, api.MaxID, api.MaxID + 1, math.MaxInt, math.MinInt} {
			p.answered(given(next), api.Call{Change: subbed(id, "a {1}"), Event: event})
			p.answered(done, api.Call{Change: replaced(next, "a {2}"), Event: event})
			p.answered(met(next), api.Call{Change: api.Change{Kind: api.Match, ID: id}, Event: []api.Pair{number("a", 2)}})
			p.answered(done, api.Call{Change: unsubbed(next), Event: event})
			next++
		}
	}
	for _, text := range junkTexts {
		p.answered(given(next), sub("a {1}"))
		p.answered(met(next), api.Call{Change: api.Change{Kind: api.Match, Text: text, ID: 3}, Event: []api.Pair{number("a", 1)}})
		p.answered(done, api.Call{Change: api.Change{Kind: api.Unsub, ID: next, Text: text}})
		p.refused(api.ErrNoSub, api.Call{Change: api.Change{Kind: api.Unsub, ID: next, Text: text}})
		p.answered(met(), api.Call{Change: api.Change{Kind: api.Match, Text: text, ID: 3}, Event: []api.Pair{number("a", 1)}})
		next++
	}
}

// P16.1: which events a Match takes, in any order of their pairs, and what it answers.
func TestMatch(t *testing.T) {
	p := newPair(t, most)
	p.do(sub("a {1} & b {2}"), sub(`!c "x"*`), sub("a [5, 3]"), sub("!b {2}"), sub(`a {1} & c {"xy", "y"}`), sub("!a [5, 3]"), unsub(3))
	pairs := []api.Pair{number("a", 1), number("b", 2), word("c", "xy"), word("d", "")}
	for _, order := range [][]int{{0, 1, 2, 3}, {3, 2, 1, 0}, {2, 0, 3, 1}, {1, 3, 0, 2}, {3, 0, 1, 2}} {
		var event []api.Pair
		for _, i := range order {
			event = append(event, pairs[i])
		}
		p.answered(met(1, 5, 6), match(event...))
	}
	p.answered(met(2, 4, 6), match())
	p.answered(met(2, 4, 6), api.Call{Change: api.Change{Kind: api.Match}, Event: []api.Pair{}})
	p.answered(met(1, 2, 6), match(number("b", 2), number("a", 1)))
	p.answered(met(2, 4, 5, 6), match(word("c", "y"), number("a", 1)))
	p.answered(met(4, 6), match(word("c", "x")))
	p.answered(met(2, 6), match(number("b", 2)))
	p.answered(met(2, 4, 6), match(number("a", api.Least), number("b", api.Most), word("c", longest)))
	for _, event := range badEvents() {
		p.refused(api.ErrKind, match(event...))
		p.refused(api.ErrKind, match(append(slices.Clone(event), word("d", "x"))...))
	}
	p.do(replace(1, "a [5, 3]"), unsub(2), unsub(4), unsub(5), unsub(6))
	for _, event := range events() {
		p.answered(met(), match(event...))
	}
}

// P16.1: the text is told as it was given, and so is the last one behind Replace.
func TestText(t *testing.T) {
	p := newPair(t, most)
	list := append(texts(), "  a {1}", "a {1}\n\t ", "((a {1}))", "a{1}|b{2}", "a {2, 1, 2}", long(api.MaxText), "a {"+strings.Repeat("1, ", api.MaxSet-1)+"1}", `c "`+longest+`"*`)
	for i, text := range list {
		p.answered(given(i+1), sub(text))
		if got, ok := p.b.Text(i + 1); got != text || !ok {
			t.Errorf("Text(%d) = %q, %v, not %q", i+1, got, ok, text)
		}
	}
	for i := range list {
		text := list[len(list)-1-i]
		p.answered(done, replace(i+1, text))
		if got, ok := p.b.Text(i + 1); got != text || !ok {
			t.Errorf("Text(%d) = %q, %v, not %q", i+1, got, ok, text)
		}
		if changes := p.b.Changes(); changes[i] != subbed(i+1, text) || len(changes) != len(list) {
			t.Errorf("Changes = %v", changes)
		}
	}
}

// P16.1: the conjunctions are those of the tree, in their order, one that is Never among them.
func TestConjs(t *testing.T) {
	p := newPair(t, api.Limits{Depth: 4, Conj: 4, Subs: 9, Total: 36})
	one := func(x ...int) api.Pred { return api.Pred{Kind: api.PredInts, Attr: "a", Ints: x} }
	two := func(x ...int) api.Pred { return api.Pred{Kind: api.PredInts, Attr: "b", Ints: x} }
	p.do(sub("(a {1} | b {2}) & (a {3, 1} | b {4})"), sub("!(a {2, 1} | b {1})"), sub("a [5, 3]"), sub("!a [5, 3]"))
	for id, want := range map[int][]api.Conj{
		1: {{Pos: []api.Pred{one(1)}}, {Pos: []api.Pred{one(1), two(4)}}, {Pos: []api.Pred{one(1, 3), two(2)}}, {Never: true}},
		2: {{Neg: []api.Pred{one(1, 2), two(1)}}}, 3: {{Never: true}}, 4: {{}}, 5: nil, 0: nil, -1: nil,
	} {
		if got := p.b.Conjs(id); !slices.EqualFunc(got, want, sameConj) {
			t.Errorf("Conjs(%d) = %v, not %v", id, got, want)
		}
	}
	p.do(replace(1, "b {7}"), unsub(2))
	if got := p.b.Conjs(1); !slices.EqualFunc(got, []api.Conj{{Pos: []api.Pred{two(7)}}}, sameConj) || len(p.b.Conjs(2)) != 0 {
		t.Errorf("Conjs = %v, %v", got, p.b.Conjs(2))
	}
	if p.b.Total() != 3 {
		t.Errorf("Total = %d", p.b.Total())
	}
}

// P16.2: numbers rise by one, whatever was refused, replaced or went; none comes again.
func TestNumbersRise(t *testing.T) {
	p := newPair(t, api.Limits{Depth: 3, Conj: 2, Subs: 3, Total: 4})
	for next := 1; next < 60; next++ {
		p.answered(given(next), sub(wide(1+next%2)))
		switch next % 6 {
		case 0:
			p.do(unsub(next), sub("a {"), replace(next, "a {1}"))
		case 1:
			p.do(sub(wide(3)), sub(deep(4)), sub("z {1}"), replace(next, "b {1}"))
		case 2:
			p.do(unsub(next-1), unsub(next-1))
		}
		for p.b.Subs() == 3 || p.b.Total() > 2 {
			p.refused(api.ErrTooMany, sub(wide(2)))
			p.do(unsub(p.b.IDs()[0]))
		}
		if p.b.Next() != next+1 {
			t.Fatalf("Next = %d behind %d", p.b.Next(), next)
		}
	}
	for _, id := range p.b.IDs() {
		p.do(unsub(id))
	}
	p.answered(given(60), sub("a {1}"))
}

// Rule 6: books of one schema have nothing to do with one another, and answer alike what they are told alike.
func TestApart(t *testing.T) {
	s := attributes(t)
	one, two, three := book.New(most, s), book.New(most, s), book.New(most, s)
	one.Do(sub("a {1}"), sub("a {2}"))
	if two.Subs() != 0 || two.Next() != 1 || len(two.IDs()) != 0 {
		t.Error("a book sees what another one is told")
	}
	if got := two.Do(sub("b {1} | b {2}"), match(number("a", 1)), unsub(2)); !slices.EqualFunc(got, []api.Answer{given(1), met(), code(api.ErrNoSub)}, sameAnswer) {
		t.Errorf("answered is %v", got)
	}
	two.Start(api.MaxID)
	two.Do(unsub(1))
	three.Do(sub("a {1}"), sub("a {2}"))
	if !sameTold(told(one), told(three)) || one.Next() != 3 || one.Total() != 2 {
		t.Error("the same calls make another book")
	}
	if got, ok := one.Text(1); got != "a {1}" || !ok {
		t.Errorf("Text = %q, %v", got, ok)
	}
}
