package book_test

import (
	"math/rand/v2"
	"slices"
	"testing"

	"trommel/api"
	"trommel/book"
	"trommel/conj"
	"trommel/eval"
	"trommel/parse"
)

// someLimits are so low that they are met often.
func someLimits(chance *rand.Rand) api.Limits {
	return api.Limits{Depth: 1 + chance.IntN(4), Conj: 1 + chance.IntN(7), Subs: chance.IntN(7), Total: chance.IntN(18)}
}

// P2, P3, P16.1: what Match answers is what the evaluator makes true of each parsed tree, and what its conjunctions say.
func TestOneMeaning(t *testing.T) {
	b := book.New(most, attributes(t))
	trees := map[int]api.Node{}
	for i, text := range texts() {
		n, _, e := parse.Parse(text)
		if got := b.Do(sub(text))[0]; e != api.OK || !sameAnswer(got, given(i+1)) {
			t.Fatalf("Sub %s is answered %v", text, got)
		}
		if got := b.Conjs(i + 1); len(got) != width(n, false) {
			t.Errorf("%s has %d conjunctions, not %d", text, len(got), width(n, false))
		}
		trees[i+1] = n
	}
	hold := func() int {
		t.Helper()
		count := 0
		for _, event := range events() {
			got := b.Do(match(event...))[0]
			if got.Code != api.OK || got.ID != 0 || !slices.IsSorted(got.IDs) || len(slices.Compact(slices.Clone(got.IDs))) != len(got.IDs) {
				t.Fatalf("%v is answered %v", event, got)
			}
			for id, n := range trees {
				yes := slices.Contains(got.IDs, id)
				said := slices.ContainsFunc(b.Conjs(id), func(c api.Conj) bool { return conj.Holds(c, event) })
				if yes != eval.Eval(n, event) || yes != said {
					t.Fatalf("%v is answered %v: of %d, %v, its conjunctions say %v", event, got, id, n, said)
				}
			}
			count += len(got.IDs)
		}
		return count
	}
	if count := hold(); count < 500 || b.Subs() != len(trees) {
		t.Errorf("only %d are true", count)
	}
	// Each gets another one's text, some go.
	for i, text := range texts() {
		id := 1 + (i+5)%len(trees)
		n, _, _ := parse.Parse(text)
		if got := b.Do(replace(id, text))[0]; !sameAnswer(got, done) {
			t.Fatalf("Replace %d %s is answered %v", id, text, got)
		}
		trees[id] = n
	}
	hold()
	for id := 2; id <= len(texts()); id += 3 {
		b.Do(unsub(id))
		delete(trees, id)
	}
	hold()
	for _, id := range b.IDs() {
		if _, there := trees[id]; !there {
			t.Errorf("%d is there still", id)
		}
	}
}

// P16.1 to P16.3, P2, P3, P5: rows of calls by chance, under low limits; every code comes, and just where the ledger has it.
func TestByChance(t *testing.T) {
	chance := rand.New(rand.NewPCG(16, 1))
	seen := map[api.Errno]int{}
	matched := 0
	for range 250 {
		p := newPair(t, someLimits(chance))
		for range 20 {
			var row []api.Call
			for range chance.IntN(5) {
				row = append(row, someCall(chance, p.l.limits.Depth, p.b.Next()))
			}
			for _, a := range p.do(row...) {
				seen[a.Code]++
				matched += len(a.IDs)
			}
		}
	}
	for _, e := range []api.Errno{api.OK, api.ErrSyntax, api.ErrTooDeep, api.ErrKind, api.ErrTooWide, api.ErrNoSub, api.ErrTooMany, api.ErrForm} {
		if seen[e] < 50 {
			t.Errorf("the code %d came %d times: too few to tell much", e, seen[e])
		}
		delete(seen, e)
	}
	if len(seen) != 0 || matched < 500 {
		t.Errorf("further codes: %v; matched were %d", seen, matched)
	}
}

// P16.3, P5: what is refused with ErrTooMany a registry takes that has the same in it and is under no such limits; what isn't, that one answers alike.
func TestTooManyByChance(t *testing.T) {
	chance := rand.New(rand.NewPCG(16, 2))
	tooMany, taken := 0, 0
	for range 150 {
		low := someLimits(chance)
		high := api.Limits{Depth: low.Depth, Conj: low.Conj, Subs: api.MaxSubs, Total: api.MaxTotal}
		p := newPair(t, low)
		for range 30 {
			free := book.New(high, attributes(t))
			if free.Apply(p.b.Changes()...) != api.OK || free.Start(p.b.Next()) != api.OK {
				t.Fatal("it isn't taken without the limits")
			}
			c := someCall(chance, low.Depth, p.b.Next())
			got, other := p.do(c)[0], free.Do(c)[0]
			above := free.Subs() > low.Subs || free.Total() > low.Total
			switch {
			case got.Code == api.ErrTooMany:
				tooMany++
				if other.Code != api.OK || !above {
					t.Fatalf("%v: %v is answered %v, and without the limits %v", p.l.texts, c, got, other)
				}
			case !sameAnswer(got, other) || above:
				t.Fatalf("%v: %v is answered %v, and without the limits %v", p.l.texts, c, got, other)
			default:
				taken++
			}
		}
	}
	if tooMany < 200 || taken < 200 {
		t.Errorf("%d were too many, %d not: too few to tell much", tooMany, taken)
	}
}

// P16.1: rows of changes by chance, and what Start answers between them.
func TestApplyByChance(t *testing.T) {
	chance := rand.New(rand.NewPCG(16, 3))
	seen := map[api.Errno]int{}
	for range 250 {
		p := newPair(t, someLimits(chance))
		for range 15 {
			var row []api.Change
			for range chance.IntN(5) {
				c := someCall(chance, p.l.limits.Depth, p.b.Next()).Change
				if c.Kind == api.Sub {
					c.ID = p.b.Next() + len(row) + chance.IntN(4) - 1
				}
				if c.Kind == api.Unsub && chance.IntN(6) > 0 {
					c.Text = ""
				}
				row = append(row, c)
			}
			got := p.b.Apply(row...)
			if want := p.l.apply(row...); got != want {
				t.Fatalf("%v: Apply(%v) = %d, not %d", p.l.texts, row, got, want)
			}
			p.hold()
			seen[got]++
			if next := p.b.Next() + chance.IntN(5) - 2; chance.IntN(4) == 0 {
				got := p.b.Start(next)
				if want := p.l.start(next); got != want {
					t.Fatalf("Start(%d) = %d, not %d", next, got, want)
				}
				p.hold()
			}
			p.do(match(someEvent(chance)...))
		}
	}
	for _, e := range []api.Errno{api.OK, api.ErrSyntax, api.ErrTooDeep, api.ErrKind, api.ErrTooWide, api.ErrNoSub, api.ErrTooMany, api.ErrForm} {
		if seen[e] < 20 {
			t.Errorf("the code %d came %d times: too few to tell much", e, seen[e])
		}
	}
}
