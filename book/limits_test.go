package book_test

import (
	"math"
	"slices"
	"strconv"
	"strings"
	"testing"

	"trommel/api"
	"trommel/book"
)

// P16.1: each field is brought into its own range, whatever the others are.
func TestClamp(t *testing.T) {
	for _, c := range []struct {
		set         func(l *api.Limits, to int)
		get         func(l api.Limits) int
		least, most int
	}{
		{func(l *api.Limits, to int) { l.Depth = to }, func(l api.Limits) int { return l.Depth }, 1, 32},
		{func(l *api.Limits, to int) { l.Conj = to }, func(l api.Limits) int { return l.Conj }, 1, 64},
		{func(l *api.Limits, to int) { l.Subs = to }, func(l api.Limits) int { return l.Subs }, 0, 1024},
		{func(l *api.Limits, to int) { l.Total = to }, func(l api.Limits) int { return l.Total }, 0, 4096},
	} {
		for _, others := range []api.Limits{{Depth: 3, Conj: 5, Subs: 7, Total: 9}, {Depth: 32, Conj: 64, Subs: 1024, Total: 4096}, {Depth: 1, Conj: 1}} {
			for _, to := range []struct{ from, want int }{
				{math.MinInt, c.least}, {-1 << 32, c.least}, {c.least - 2, c.least}, {c.least - 1, c.least}, {c.least, c.least}, {c.least + 1, c.least + 1}, {c.most / 2, c.most / 2},
				{c.most - 1, c.most - 1}, {c.most, c.most}, {c.most + 1, c.most}, {c.most + 2, c.most}, {1 << 32, c.most}, {math.MaxInt, c.most},
			} {
				l, want := others, others
				c.set(&l, to.from)
				c.set(&want, to.want)
				if got := book.Clamp(l); got != want || c.get(got) != to.want || book.Clamp(got) != got {
					t.Errorf("Clamp(%v) = %v, not %v", l, got, want)
				}
			}
		}
	}
	if got := book.Clamp(api.Limits{}); got != (api.Limits{Depth: 1, Conj: 1}) {
		t.Errorf("Clamp of nothing = %v", got)
	}
}

// P16.1: a book is under its limits brought into their ranges.
func TestNewClamps(t *testing.T) {
	low := api.Limits{Depth: -5, Conj: 0, Subs: -1, Total: -1}
	b := book.New(low, attributes(t))
	for text, want := range map[string]api.Errno{"a {1}": api.ErrTooMany, "!a {1}": api.ErrTooDeep, wide(2): api.ErrTooDeep, "z {1}": api.ErrKind, "": api.ErrSyntax} {
		if got := b.Do(sub(text))[0]; !sameAnswer(got, code(want)) {
			t.Errorf("Sub %s is answered %v, not %d", text, got, want)
		}
	}
	low.Depth, low.Subs, low.Total = 2, 1, 1
	b = book.New(low, attributes(t))
	if got := b.Do(sub(wide(2)), sub("a {1}")); !slices.EqualFunc(got, []api.Answer{code(api.ErrTooWide), given(1)}, sameAnswer) {
		t.Errorf("answered is %v", got)
	}
	for _, l := range []api.Limits{most, {Depth: 33, Conj: 65, Subs: 1025, Total: 4097}, {Depth: math.MaxInt, Conj: math.MaxInt, Subs: math.MaxInt, Total: math.MaxInt}} {
		b := book.New(l, attributes(t))
		if got := b.Do(sub(deep(32)), sub(deep(33)), sub(wide(64)), sub(wide(65))); !slices.EqualFunc(got, []api.Answer{given(1), code(api.ErrTooDeep), given(2), code(api.ErrTooWide)}, sameAnswer) {
			t.Errorf("answered is %v", got)
		}
	}
}

// P16.1, P5: the depth at each limit, and one above.
func TestDepth(t *testing.T) {
	for limit := 1; limit <= api.MaxDepth; limit++ {
		p := newPair(t, api.Limits{Depth: limit, Conj: api.MaxConj, Subs: 9, Total: 99})
		p.answered(given(1), sub(deep(limit)))
		p.refused(api.ErrTooDeep, sub(deep(limit+1)))
		p.refused(api.ErrTooDeep, replace(1, deep(limit+1)))
		p.refused(api.ErrTooDeep, replace(9, deep(limit+1)))
		p.answered(done, replace(1, "(("+deep(limit)+"))"))
		if limit > 1 {
			p.answered(given(2), sub("a {1} & "+deep(limit-1)))
			p.answered(given(3), sub(strings.Repeat("!", limit-2)+"("+wide(2)+")"))
		}
		p.refused(api.ErrTooDeep, sub("a {1} | "+deep(limit)))
	}
}

// P16.1, P3: the width at each limit, and one above.
func TestWidth(t *testing.T) {
	for limit := 1; limit <= api.MaxConj; limit++ {
		p := newPair(t, api.Limits{Depth: api.MaxDepth, Conj: limit, Subs: 2, Total: 2 * api.MaxConj})
		p.refused(api.ErrTooWide, sub(wide(limit+1)))
		p.answered(given(1), sub(wide(limit)))
		p.refused(api.ErrTooWide, sub(wide(limit+1)))
		p.refused(api.ErrTooWide, replace(1, wide(limit+1)))
		p.refused(api.ErrTooWide, replace(9, wide(limit+1)))
		p.answered(done, replace(1, "!("+strings.Repeat("a {1} & ", limit-1)+"b {2})"))
		p.refused(api.ErrTooWide, replace(1, "!("+strings.Repeat("a {1} & ", limit)+"b {2})"))
		p.answered(given(2), sub("("+wide(limit)+`) & c ""*`))
		p.refused(api.ErrTooWide, replace(2, "("+wide(limit)+`) & c ""* | d {"x"}`))
		p.answered(done, replace(2, "!("+wide(200)+")"))
		if p.b.Total() != limit+1 || len(p.b.Conjs(1)) != limit || len(p.b.Conjs(2)) != 1 {
			t.Errorf("Total %d under the limit %d", p.b.Total(), limit)
		}
	}
	p := newPair(t, api.Limits{Depth: 3, Conj: 64, Subs: 9, Total: 999})
	eight, two := "("+wide(8)+")", "("+wide(2)+")"
	p.answered(given(1), sub(eight+" & "+eight))
	p.refused(api.ErrTooWide, sub("("+wide(5)+") & ("+wide(13)+")"))
	p.answered(given(2), sub(strings.Repeat(two+" & ", 5)+two))
	p.refused(api.ErrTooWide, sub(strings.Repeat(two+" & ", 6)+two))
	p.refused(api.ErrTooWide, sub(strings.Repeat(two+" & ", 200)+two))
	// Never holds, and counts as any other: the width is that of the tree.
	p.answered(given(3), sub("a {1} & a {2} | a [5, 3]"))
	if p.b.Total() != 130 {
		t.Errorf("Total = %d", p.b.Total())
	}
}

// P16.2, P16.3: as many subscriptions as the limit, and one above; one that goes makes room, one that is replaced doesn't.
func TestSubsLimit(t *testing.T) {
	for _, limit := range []int{0, 1, 2, 5} {
		p := newPair(t, api.Limits{Depth: 2, Conj: 2, Subs: limit, Total: 99})
		for id := 1; id <= limit; id++ {
			p.answered(given(id), sub("a {1}"))
		}
		p.refused(api.ErrTooMany, sub("a {1}"))
		if limit == 0 {
			continue
		}
		p.answered(done, replace(limit, wide(2)))
		p.refused(api.ErrTooMany, sub("a {1}"))
		p.answered(done, unsub(1))
		p.answered(given(limit+1), sub("a {1}"))
		p.refused(api.ErrTooMany, sub("a {1}"))
	}
}

// P16.2, P16.3: a Total that comes to the limit, and to one above, at Sub.
func TestTotalAtSub(t *testing.T) {
	for limit := range 12 {
		p := newPair(t, api.Limits{Depth: 2, Conj: 16, Subs: 20, Total: limit})
		p.refused(api.ErrTooMany, sub(wide(limit+1)))
		if limit == 0 {
			continue
		}
		p.answered(given(1), sub(wide(limit)))
		p.refused(api.ErrTooMany, sub("a {1}"))
		p.answered(done, unsub(1))
		p.answered(given(2), sub("a {1}"))
		p.refused(api.ErrTooMany, sub(wide(limit)))
		if limit > 1 {
			p.answered(given(3), sub(wide(limit-1)))
		}
		if p.b.Total() != limit {
			t.Errorf("Total = %d under %d", p.b.Total(), limit)
		}
		p.refused(api.ErrTooMany, sub("a {1}"))
	}
}

// P16.2, P16.3: the same at Replace: the old one's width is taken off.
func TestTotalAtReplace(t *testing.T) {
	for limit := 3; limit < 12; limit++ {
		p := newPair(t, api.Limits{Depth: 2, Conj: 16, Subs: 2, Total: limit})
		p.do(sub("a {1}"), sub(wide(limit-1)))
		p.answered(done, replace(2, wide(limit-1)+" "))
		p.refused(api.ErrTooMany, replace(2, wide(limit)))
		p.refused(api.ErrTooMany, replace(1, wide(2)))
		p.answered(done, replace(1, "b {1}"))
		p.answered(done, replace(2, "a {1}"))
		if p.b.Total() != 2 {
			t.Errorf("Total = %d", p.b.Total())
		}
		p.answered(done, replace(1, wide(limit-1)))
		p.refused(api.ErrTooMany, replace(1, wide(limit)))
		p.refused(api.ErrTooMany, replace(2, wide(2)))
		p.answered(done, unsub(2))
		p.refused(api.ErrTooMany, replace(1, wide(limit+1)))
		p.answered(done, replace(1, wide(limit)))
		if p.b.Total() != limit {
			t.Errorf("Total = %d", p.b.Total())
		}
	}
}

// P16.2, P16.3: as many as may be at all: 1024 subscriptions, and widths of 4096 together.
func TestMost(t *testing.T) {
	p := newPair(t, most)
	var row []api.Call
	for id := 1; id <= api.MaxSubs; id++ {
		row = append(row, sub("a {"+strconv.Itoa(id%7)+"} | b {"+strconv.Itoa(id)+"} | "+wide(2)))
	}
	got := p.b.Do(append(row, sub("a {1}"), match(number("b", 700)))...)
	for i, a := range got[:api.MaxSubs] {
		if !sameAnswer(a, given(i+1)) {
			t.Fatalf("call %d is answered %v", i, a)
		}
	}
	if !sameAnswer(got[api.MaxSubs], code(api.ErrTooMany)) || !sameAnswer(got[api.MaxSubs+1], met(700)) || p.b.Subs() != 1024 || p.b.Total() != 4096 || p.b.Next() != 1025 {
		t.Errorf("Subs %d, Total %d; behind them %v", p.b.Subs(), p.b.Total(), got[api.MaxSubs:])
	}
	if got := p.b.Do(replace(1024, wide(5)), replace(1024, wide(4)), unsub(512), sub(wide(5)), sub(wide(4)), sub("a {1}")); !slices.EqualFunc(got, []api.Answer{code(api.ErrTooMany), done, done, code(api.ErrTooMany), given(1025), code(api.ErrTooMany)}, sameAnswer) {
		t.Errorf("answered is %v", got)
	}
	ids := p.b.IDs()
	if len(ids) != 1024 || !slices.IsSorted(ids) || ids[510] != 511 || ids[511] != 513 || ids[1023] != 1025 || len(p.b.Changes()) != 1024 {
		t.Errorf("%d numbers", len(ids))
	}
	b := book.New(most, attributes(t))
	for id := 1; id <= api.MaxTotal/api.MaxConj; id++ {
		if got := b.Do(sub(wide(api.MaxConj)))[0]; !sameAnswer(got, given(id)) {
			t.Fatalf("%d is answered %v", id, got)
		}
	}
	if got := b.Do(sub("a {1}"), replace(1, wide(63)), sub(wide(2)), sub("a {1}"), sub("a {1}")); !slices.EqualFunc(got, []api.Answer{code(api.ErrTooMany), done, code(api.ErrTooMany), given(65), code(api.ErrTooMany)}, sameAnswer) || b.Total() != 4096 {
		t.Errorf("answered is %v", got)
	}
}

// P16.1, P16.3: Next at MaxID, and above it: there is no number left, and what needs none goes on.
func TestLastNumber(t *testing.T) {
	p := newPair(t, api.Limits{Depth: 3, Conj: 2, Subs: 4, Total: 9})
	p.do(sub("a {1}"))
	p.start(api.OK, api.MaxID-1)
	p.answered(given(api.MaxID-1), sub("a {1, 2}"))
	p.answered(given(api.MaxID), sub("a {2}"))
	if p.b.Next() != api.MaxID+1 {
		t.Errorf("Next = %d", p.b.Next())
	}
	for range 2 {
		p.refused(api.ErrTooMany, sub("a {1}"))
		p.refused(api.ErrSyntax, sub("a {"))
		p.refused(api.ErrTooDeep, sub(deep(4)))
		p.refused(api.ErrKind, sub("z {1}"))
		p.refused(api.ErrTooWide, sub(wide(3)))
		p.refused(api.ErrNoSub, replace(api.MaxID+1, "a {1}"))
		p.refused(api.ErrNoSub, unsub(api.MaxID+1))
		p.answered(done, replace(api.MaxID, "a {1} | a {2}"))
		p.answered(met(api.MaxID-1, api.MaxID), match(number("a", 2)))
		p.do(unsub(1))
	}
	p.answered(done, unsub(api.MaxID))
	p.refused(api.ErrTooMany, sub("a {1}"))
	p.answered(done, unsub(api.MaxID-1))
	p.refused(api.ErrTooMany, sub("a {1}"))
	p.refused(api.ErrNoSub, unsub(api.MaxID))
}
