package book_test

import (
	"math"
	"math/rand/v2"
	"slices"
	"strings"
	"testing"

	"trommel/api"
	"trommel/book"
)

// P16.1: changes are done as their calls are, but that a Sub has its own number, and Next is one more.
func TestApply(t *testing.T) {
	p := newPair(t, api.Limits{Depth: 3, Conj: 4, Subs: 3, Total: 6})
	p.apply(api.OK, subbed(1, "a {1}"), subbed(2, "a {2} | b {1}"), replaced(1, "a {1} | a {3}"), unsubbed(2), subbed(3, "!a {1}"))
	if !slices.Equal(p.b.Changes(), []api.Change{subbed(1, "a {1} | a {3}"), subbed(3, "!a {1}")}) || p.b.Next() != 4 || p.b.Subs() != 2 || p.b.Total() != 3 {
		t.Errorf("Changes %v, Next %d, Subs %d, Total %d", p.b.Changes(), p.b.Next(), p.b.Subs(), p.b.Total())
	}
	p.answered(met(1), match(number("a", 1)))
	p.answered(met(1, 3), match(number("a", 3)))
	p.answered(given(4), sub("a {1}"))
}

// P16.1: changes that may not be, alone and with all else that is wrong with them.
func TestMayNotBe(t *testing.T) {
	p := newPair(t, api.Limits{Depth: 3, Conj: 4, Subs: 2, Total: 6})
	p.do(sub("a {1}"), sub("a {2}"), unsub(2))
	var list []api.Change
	for _, id := range []int{0, -1, -2, api.MaxID + 1, api.MaxID + 2, math.MaxInt, math.MinInt, math.MinInt + 1} {
		for _, text := range []string{"a {1}", "", "a {", "z {1}", deep(4), wide(5)} {
			list = append(list, subbed(id, text), replaced(id, text))
		}
		list = append(list, unsubbed(id))
	}
	for _, kind := range []int{0, api.Match, 5, -1, math.MaxInt, math.MinInt, 1<<32 + 1} {
		for _, id := range []int{0, 1, 2, 3, api.MaxID} {
			for _, text := range []string{"a {1}", "", "a {"} {
				list = append(list, api.Change{Kind: kind, ID: id, Text: text})
			}
		}
	}
	for _, text := range []string{long(api.MaxText + 1), strings.Repeat("a", api.MaxText+1), strings.Repeat(" ", 2*api.MaxText)} {
		list = append(list, subbed(3, text), replaced(1, text), replaced(9, text), api.Change{Kind: api.Unsub, ID: 1, Text: text})
	}
	for _, text := range []string{"a {1}", " ", "a {", "\x00", long(api.MaxText)} {
		list = append(list, api.Change{Kind: api.Unsub, ID: 1, Text: text}, api.Change{Kind: api.Unsub, ID: 2, Text: text}, api.Change{Kind: api.Unsub, ID: 9, Text: text})
	}
	// And a Sub whose number is below Next, whatever its text is.
	for _, text := range []string{"a {1}", "", "a {", "z {1}", deep(4), wide(5)} {
		list = append(list, subbed(1, text), subbed(2, text))
	}
	for _, full := range []bool{false, true} {
		if full {
			p.do(sub("b {1}"))
			list = append(list, subbed(3, "a {1}"))
		}
		for _, c := range list {
			before := told(p.b)
			p.apply(api.ErrForm, c)
			p.apply(api.ErrForm, c, unsubbed(1))
			if !sameTold(before, told(p.b)) {
				t.Errorf("%v changes something", c)
			}
		}
	}
}

// P16.1: a text of MaxText bytes may be.
func TestLongestText(t *testing.T) {
	p := newPair(t, most)
	p.apply(api.OK, subbed(1, long(api.MaxText)), subbed(2, "a {1}"), replaced(2, long(api.MaxText)))
	p.apply(api.ErrForm, subbed(3, long(api.MaxText+1)))
	p.apply(api.ErrForm, replaced(2, long(api.MaxText+1)))
	p.apply(api.ErrSyntax, subbed(3, strings.Repeat(" ", api.MaxText)))
	p.apply(api.ErrSyntax, subbed(3, ""))
	p.apply(api.ErrSyntax, replaced(2, ""))
	p.answered(given(3), sub(long(api.MaxText)))
	p.refused(api.ErrSyntax, sub(long(api.MaxText+1)))
}

// P16.1: changes that may be and aren't done answer as their calls do, and change nothing.
func TestApplyErrors(t *testing.T) {
	p := newPair(t, api.Limits{Depth: 3, Conj: 4, Subs: 2, Total: 6})
	p.do(sub(wide(2)), sub(wide(3)))
	for _, c := range []struct {
		change api.Change
		want   api.Errno
	}{
		{subbed(3, "a {"), api.ErrSyntax}, {subbed(9, ""), api.ErrSyntax}, {subbed(3, deep(4)), api.ErrTooDeep}, {subbed(3, "z {1}"), api.ErrKind}, {subbed(3, wide(5)), api.ErrTooWide}, {subbed(3, "a {1}"), api.ErrTooMany}, {subbed(api.MaxID, "a {1}"), api.ErrTooMany},
		{replaced(1, "a {"), api.ErrSyntax}, {replaced(9, "a {"), api.ErrSyntax}, {replaced(1, deep(4)), api.ErrTooDeep}, {replaced(9, "!!!z {1}"), api.ErrTooDeep}, {replaced(1, "c {1}"), api.ErrKind}, {replaced(9, `a {"x"}`), api.ErrKind}, {replaced(9, wide(5)), api.ErrTooWide},
		{replaced(3, "a {1}"), api.ErrNoSub}, {replaced(9, wide(4)), api.ErrNoSub}, {replaced(api.MaxID, "a {1}"), api.ErrNoSub}, {replaced(1, wide(4)), api.ErrTooMany}, {unsubbed(3), api.ErrNoSub}, {unsubbed(api.MaxID), api.ErrNoSub},
	} {
		before := told(p.b)
		p.apply(c.want, c.change)
		if !sameTold(before, told(p.b)) || p.b.Next() != 3 {
			t.Errorf("%v changes something", c.change)
		}
	}
	p.apply(api.OK, replaced(2, wide(4)), unsubbed(1))
	p.apply(api.ErrTooMany, subbed(5, wide(3)))
	p.apply(api.OK, subbed(5, wide(2)))
	p.answered(done, unsub(2))
	p.answered(given(6), sub("a {1}"))
}

// P16.1: a Sub with a number below Next, at it, and far above it; the numbers between are none's, and none comes again.
func TestApplyNumbers(t *testing.T) {
	p := newPair(t, most)
	p.apply(api.OK, subbed(5, "a {5}"))
	if p.b.Next() != 6 || p.b.Subs() != 1 || !slices.Equal(p.b.IDs(), []int{5}) {
		t.Errorf("Next %d, IDs %v", p.b.Next(), p.b.IDs())
	}
	for id := 1; id <= 5; id++ {
		p.apply(api.ErrForm, subbed(id, "a {1}"))
	}
	p.answered(given(6), sub("a {6}"))
	p.answered(done, unsub(6))
	p.apply(api.ErrForm, subbed(6, "a {1}"))
	p.apply(api.OK, subbed(7, "a {7}"), subbed(1<<32+1, "a {5}"), unsubbed(1<<32+1))
	p.apply(api.ErrForm, subbed(1<<32+1, "a {5}"))
	p.apply(api.OK, subbed(api.MaxID-1, "a {5}"))
	p.answered(met(5, api.MaxID-1), match(number("a", 5)))
	p.apply(api.OK, subbed(api.MaxID, "a {7}"))
	if p.b.Next() != api.MaxID+1 {
		t.Errorf("Next = %d", p.b.Next())
	}
	p.apply(api.ErrForm, subbed(api.MaxID, "a {7}"))
	p.apply(api.ErrForm, subbed(api.MaxID+1, "a {7}"))
	p.refused(api.ErrTooMany, sub("a {1}"))
	p.apply(api.OK, replaced(api.MaxID, "a {5}"), unsubbed(5))
	p.answered(met(api.MaxID-1, api.MaxID), match(number("a", 5)))
	if !slices.Equal(p.b.IDs(), []int{7, api.MaxID - 1, api.MaxID}) {
		t.Errorf("IDs = %v", p.b.IDs())
	}
}

// P16.1: those ahead of the first that isn't done stay done, those behind it aren't begun.
func TestApplyInTheMiddle(t *testing.T) {
	ahead := []api.Change{subbed(1, "a {1}"), subbed(4, "a {2} | b {2}"), replaced(1, "a {3}"), subbed(5, "b {1}"), unsubbed(5)}
	behind := []api.Change{unsubbed(1), subbed(9, "a {1}"), replaced(4, "b {7}"), {}, subbed(8, "a {")}
	for _, c := range []struct {
		middle api.Change
		want   api.Errno
	}{
		{api.Change{}, api.ErrForm}, {subbed(0, "a {1}"), api.ErrForm}, {subbed(5, "a {1}"), api.ErrForm}, {api.Change{Kind: api.Match, ID: 1}, api.ErrForm}, {api.Change{Kind: api.Unsub, ID: 1, Text: "x"}, api.ErrForm}, {subbed(6, long(api.MaxText+1)), api.ErrForm},
		{subbed(6, "a {"), api.ErrSyntax}, {subbed(6, deep(4)), api.ErrTooDeep}, {replaced(4, "z {1}"), api.ErrKind}, {replaced(4, wide(5)), api.ErrTooWide}, {subbed(6, wide(4)), api.ErrTooMany}, {replaced(5, "a {1}"), api.ErrNoSub}, {unsubbed(5), api.ErrNoSub},
	} {
		for cut := range len(behind) + 1 {
			p := newPair(t, api.Limits{Depth: 3, Conj: 4, Subs: 3, Total: 6})
			p.apply(c.want, slices.Concat(ahead, []api.Change{c.middle}, behind[:cut])...)
			if !slices.Equal(p.b.Changes(), []api.Change{subbed(1, "a {3}"), subbed(4, "a {2} | b {2}")}) || p.b.Next() != 6 || p.b.Total() != 3 {
				t.Errorf("%v: Changes %v, Next %d", c.middle, p.b.Changes(), p.b.Next())
			}
			p.apply(api.OK, unsubbed(1), subbed(9, "a {1}"))
		}
	}
}

// P16.1: Start below Next, at it, above it, at MaxID + 1 and above.
func TestStart(t *testing.T) {
	p := newPair(t, most)
	for _, next := range []int{0, -1, math.MinInt, api.MaxID + 2, math.MaxInt} {
		p.start(api.ErrRange, next)
	}
	p.start(api.OK, 1)
	p.do(sub("a {1}"), sub("a {2}"), sub("a {1, 2}"), unsub(3))
	for next := -1; next < 4; next++ {
		p.start(api.ErrRange, next)
	}
	p.start(api.OK, 4)
	p.start(api.OK, 4)
	p.start(api.OK, 7)
	for next := 1; next < 7; next++ {
		p.start(api.ErrRange, next)
	}
	p.answered(given(7), sub("a {1}"))
	p.answered(met(1, 7), match(number("a", 1)))
	p.start(api.OK, 1<<32+5)
	p.answered(given(1<<32+5), sub("a {1}"))
	p.start(api.OK, api.MaxID)
	p.start(api.ErrRange, api.MaxID-1)
	p.start(api.ErrRange, api.MaxID+2)
	p.start(api.OK, api.MaxID+1)
	p.start(api.OK, api.MaxID+1)
	for _, next := range []int{api.MaxID, 1, 0, api.MaxID + 2, api.MaxID + 3, math.MaxInt, math.MinInt} {
		p.start(api.ErrRange, next)
	}
	p.refused(api.ErrTooMany, sub("a {1}"))
	p.apply(api.ErrForm, subbed(api.MaxID, "a {1}"))
	if p.b.Subs() != 4 || p.b.Total() != 4 {
		t.Errorf("Subs %d, Total %d", p.b.Subs(), p.b.Total())
	}
}

// again is a new book, made as P16.4 tells.
func (p *pair) again() *book.Book {
	p.t.Helper()
	b := book.New(p.l.limits, attributes(p.t))
	if e := b.Apply(p.b.Changes()...); e != api.OK {
		p.t.Fatalf("%v: Apply(Changes()) = %d", p.l.texts, e)
	}
	if e := b.Start(p.b.Next()); e != api.OK {
		p.t.Fatalf("%v: Start(Next()) = %d behind Next %d", p.l.texts, e, b.Next())
	}
	if !sameTold(told(b), told(p.b)) || !slices.Equal(b.IDs(), p.b.IDs()) {
		p.t.Fatalf("%v: made again it is %v", p.l.texts, b.Changes())
	}
	return b
}

// P16.4: made again, a registry of nothing, of all numbers that were, at its limits, and with no number left.
func TestAgain(t *testing.T) {
	p := newPair(t, api.Limits{Depth: 3, Conj: 4, Subs: 3, Total: 6})
	later := []api.Call{sub("a {1}"), match(number("a", 1)), sub(wide(4)), replace(1, wide(2)), replace(2, wide(3)), unsub(3), sub("!a {1}"), match(), unsub(1), sub("a {2}"), sub("a {2}"), sub("a {2}"), match(number("a", 2))}
	hold := func() {
		t.Helper()
		b, l := p.again(), newPair(t, p.l.limits)
		l.apply(api.OK, p.b.Changes()...)
		l.start(api.OK, p.b.Next())
		want := p.do(later...)
		if got := b.Do(later...); !slices.EqualFunc(got, want, sameAnswer) || !slices.EqualFunc(l.do(later...), want, sameAnswer) || !sameTold(told(b), told(p.b)) {
			t.Fatalf("made again it answers %v, not %v", got, want)
		}
	}
	hold()
	hold()
	for _, id := range p.b.IDs() {
		p.do(unsub(id))
	}
	hold()
	p.do(sub(wide(4)), sub(wide(2)), sub("a {1}"))
	hold()
	p.do(unsub(p.b.IDs()[0]))
	p.start(api.OK, api.MaxID)
	hold()
	for _, id := range p.b.IDs() {
		p.do(unsub(id))
	}
	p.start(api.OK, api.MaxID+1)
	hold()
}

// P16.4: by chance, and rows of later calls answered by both alike.
func TestAgainByChance(t *testing.T) {
	chance := rand.New(rand.NewPCG(16, 4))
	for range 120 {
		p := newPair(t, someLimits(chance))
		for range chance.IntN(40) {
			p.do(someCall(chance, p.l.limits.Depth, p.b.Next()))
		}
		if chance.IntN(6) == 0 {
			p.start(api.OK, api.MaxID-chance.IntN(3)+1)
		}
		b := p.again()
		for range 15 {
			var row []api.Call
			for range chance.IntN(4) {
				row = append(row, someCall(chance, p.l.limits.Depth, p.b.Next()))
			}
			want := p.do(row...)
			if got := b.Do(row...); !slices.EqualFunc(got, want, sameAnswer) {
				t.Fatalf("%v: %v is answered %v, made again %v", p.l.texts, row, want, got)
			}
			if !sameTold(told(b), told(p.b)) {
				t.Fatalf("%v: made again it is %v", p.l.texts, b.Changes())
			}
		}
	}
}

// P16.1, P16.4: a journal, which has the changes of all calls that were answered OK, makes the registry again too.
func TestJournalByChance(t *testing.T) {
	chance := rand.New(rand.NewPCG(16, 5))
	for range 60 {
		p := newPair(t, someLimits(chance))
		var journal []api.Change
		for range 40 {
			c := someCall(chance, p.l.limits.Depth, p.b.Next())
			a := p.do(c)[0]
			if a.Code != api.OK || c.Kind == api.Match {
				continue
			}
			done := c.Change
			switch c.Kind {
			case api.Sub:
				done.ID = a.ID
			case api.Unsub:
				done.Text = ""
			}
			journal = append(journal, done)
		}
		b := newPair(t, p.l.limits)
		b.apply(api.OK, journal...)
		if !sameTold(told(b.b), told(p.b)) {
			t.Fatalf("%v: of the journal %v", p.l.texts, b.b.Changes())
		}
	}
}
