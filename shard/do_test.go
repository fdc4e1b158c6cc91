package shard_test

import (
	"math"
	"math/rand/v2"
	"slices"
	"testing"

	"trommel/api"
)

// shards are all that there may be.
func shards(t *testing.T, do func(p *pair)) {
	t.Helper()
	for of := 1; of <= api.MaxShards; of++ {
		for own := range of {
			do(newPair(t, own, of))
		}
	}
}

// P22.1: no tasks have no answers, and change nothing.
func TestNoTasks(t *testing.T) {
	shards(t, func(p *pair) {
		for range 3 {
			if got := p.do(); len(got) != 0 {
				t.Errorf("Do() = %v", got)
			}
			if got := p.x.Do([]api.Task{}...); len(got) != 0 {
				t.Errorf("Do of an empty list = %v", got)
			}
			p.do(sub(3, each(9)...))
			p.hold(events()...)
		}
	})
}

// P22.1: a shard owns those of a subscription's conjunctions that belong to it, and no others.
func TestOwnership(t *testing.T) {
	for of := 1; of <= api.MaxShards; of++ {
		for own := range of {
			for _, id := range []int{1, 2, 3, 7, 8, 9, 1 << 33, api.MaxID - 1, api.MaxID} {
				p := newPair(t, own, of)
				const count = 20
				p.do(sub(id, each(count)...))
				owned := 0
				for j := range count {
					var want []int
					if (id+j)%of == own {
						want = []int{id}
						owned++
					}
					if got := p.do(match(number("a", j)))[0]; !slices.Equal(got, want) {
						t.Errorf("shard %d of %d: conjunction %d of %d: %v", own, of, j, id, got)
					}
				}
				if p.x.Load() != owned || p.x.Load() != p.x.Conjs() {
					t.Errorf("shard %d of %d: Load %d, not %d", own, of, p.x.Load(), owned)
				}
			}
		}
	}
}

// P22.1: each task is done ahead of the next: at once or one by one, the answers are the same.
func TestAtOnceAndOneByOne(t *testing.T) {
	at := match(number("a", 1))
	tasks := []api.Task{
		at, sub(3, each(3)...), at, sub(1, always), at, replace(3, each(1)...), at, unsub(1), at, sub(2, each(9)...), sub(4, each(9)...), at, unsub(2), replace(4), at, sub(5, never, always, never, always), at, unsub(5), unsub(4), at, {Kind: 9, ID: 3}, at, unsub(3), at,
	}
	shards(t, func(p *pair) {
		whole := p.do(tasks...)
		single := newPair(t, p.s.own, p.s.of)
		for i, task := range tasks {
			if got := single.do(task); len(got) != 1 || !slices.Equal(got[0], whole[i]) {
				t.Errorf("%d: %v, at once %v", i, got, whole[i])
			}
		}
		half := newPair(t, p.s.own, p.s.of)
		got := append(half.do(tasks[:11]...), half.do(tasks[11:]...)...)
		if !slices.EqualFunc(got, whole, slices.Equal[[]int]) {
			t.Errorf("in halves %v, at once %v", got, whole)
		}
	})
	p := newPair(t, 0, 1)
	got := p.do(tasks...)
	for i, want := range map[int][]int{0: nil, 2: {3}, 4: {1, 3}, 6: {1}, 8: nil, 11: {2, 4}, 14: nil, 16: {5}, 19: nil, 21: nil, 23: nil} {
		if !slices.Equal(got[i], want) {
			t.Errorf("answer %d is %v, not %v", i, got[i], want)
		}
	}
}

// P22.1: of every task but a Match the answer is none, whatever stands in it.
func TestOnlyMatchesAreAnswered(t *testing.T) {
	shards(t, func(p *pair) {
		p.do(sub(3, always, always, always, always, always, always, always, always))
		for _, kind := range append(otherKinds(), api.Sub, api.Replace, api.Unsub) {
			if got := p.do(api.Task{Kind: kind, ID: 4, Conjs: []api.Conj{always}, Event: []api.Pair{number("a", 1)}}); len(got[0]) != 0 {
				t.Errorf("kind %d: %v", kind, got)
			}
		}
		if got := p.do(match(), match(number("a", 1))); !slices.Equal(got[0], []int{3}) || !slices.Equal(got[1], []int{3}) {
			t.Errorf("Match = %v", got)
		}
	})
}

// P22.1: another Kind does nothing; what a kind doesn't use plays no part.
func TestKinds(t *testing.T) {
	shards(t, func(p *pair) {
		p.do(sub(3, each(9)...), sub(5, always))
		load := p.x.Load()
		for _, kind := range otherKinds() {
			for _, id := range []int{3, 5, 4, 0} {
				p.do(api.Task{Kind: kind, ID: id, Conjs: []api.Conj{always, always}, Event: []api.Pair{number("a", 1)}}, api.Task{Kind: kind, ID: id})
				p.hold(events()...)
			}
		}
		if p.x.Load() != load {
			t.Errorf("Load %d, not %d", p.x.Load(), load)
		}
		// An Unsub with conjunctions and an event, a Match with a number and bad conjunctions.
		p.do(api.Task{Kind: api.Match, ID: 3, Conjs: badConjs(), Event: []api.Pair{number("a", 1)}}, api.Task{Kind: api.Match, ID: -1, Conjs: each(2)})
		p.do(api.Task{Kind: api.Unsub, ID: 3, Conjs: badConjs(), Event: []api.Pair{number("a", 1)}})
		p.do(api.Task{Kind: api.Sub, ID: 6, Conjs: each(9), Event: []api.Pair{{}, number("a", 77)}})
		p.hold(events()...)
	})
}

// P22.1: IDs below 1 and above MaxID are no subscription's: nothing is done; 1 and MaxID are.
func TestIDs(t *testing.T) {
	shards(t, func(p *pair) {
		p.do(sub(1, each(8)...), sub(api.MaxID, each(8)...))
		load := p.x.Load()
		for _, id := range []int{math.MinInt, math.MinInt + 1, -api.MaxID, -1, 0, api.MaxID + 1, api.MaxID + 8, 1 << 41, math.MaxInt - 1, math.MaxInt} {
			p.do(sub(id, each(9)...), replace(id, always, always), match(number("a", 1)), unsub(id), sub(id), replace(id))
			p.hold(events()...)
		}
		if p.x.Load() != load || p.s.of == 1 && load != 16 {
			t.Errorf("Load %d, not %d", p.x.Load(), load)
		}
		for _, id := range []int{1, 2, 1<<32 + 1, api.MaxID - 1, api.MaxID} {
			p.do(sub(id, each(9)...))
			p.hold(events()...)
			p.do(replace(id, slices.Repeat([]api.Conj{always}, 8)...))
			if got := p.do(match())[0]; !slices.Contains(got, id) || !slices.IsSorted(got) {
				t.Errorf("%d: Match = %v", id, got)
			}
			p.hold(events()...)
		}
		p.do(unsub(api.MaxID), unsub(1))
		p.hold(events()...)
	})
}

// P22.1: one conjunction that isn't normal, wherever it stands and whosever it is, and nothing is done.
func TestNotNormal(t *testing.T) {
	for _, of := range []int{1, 2, 3, api.MaxShards} {
		for own := range of {
			p := newPair(t, own, of)
			p.do(sub(3, each(9)...), sub(5, always, always, always))
			load := p.x.Load()
			for _, bad := range badConjs() {
				for place := range 9 {
					conjs := slices.Insert(each(8), place, bad)
					p.do(sub(3, conjs...), replace(3, conjs...), sub(4, conjs...), replace(5, conjs...), match(number("a", 1)), match(number("a", 7)))
				}
				p.do(sub(3, bad), replace(5, bad, bad), sub(3, never, bad), sub(6, bad, always))
				if p.x.Load() != load {
					t.Fatalf("shard %d of %d: Load %d, not %d", own, of, p.x.Load(), load)
				}
			}
			p.hold(events()...)
			p.do(sub(3, each(4)...))
			p.hold(events()...)
		}
	}
}

// P22.1: no conjunctions: what the shard owned of the subscription goes, and it owns nothing of it.
func TestNoConjs(t *testing.T) {
	shards(t, func(p *pair) {
		p.do(sub(4), replace(5), match())
		if p.x.Load() != 0 {
			t.Errorf("Load %d", p.x.Load())
		}
		p.do(sub(4, each(9)...), sub(5, always, always), sub(4), match(number("a", 1)))
		p.hold(events()...)
		p.do(replace(5, []api.Conj{}...), match())
		if p.x.Load() != 0 {
			t.Errorf("Load %d", p.x.Load())
		}
		p.do(sub(4, each(9)...))
		p.hold(events()...)
	})
}

// P22.1: one that is Never is owned as any other, and nothing meets it; the same one several times is owned each time.
func TestNeverAndTwice(t *testing.T) {
	shards(t, func(p *pair) {
		p.do(sub(4, slices.Repeat([]api.Conj{never}, 16)...))
		if want := 16 / p.s.of; p.x.Load() != want && p.x.Load() != want+1 {
			t.Errorf("Load %d, not %d", p.x.Load(), want)
		}
		for _, event := range events() {
			if got := p.do(match(event...))[0]; len(got) != 0 {
				t.Errorf("Match(%v) = %v", event, got)
			}
		}
		p.do(sub(2, slices.Repeat(each(1), 16)...), sub(6, api.Conj{Never: true, Pos: []api.Pred{}, Neg: []api.Pred{}}))
		if got := p.do(match(number("a", 0)))[0]; !slices.Equal(got, []int{2}) {
			t.Errorf("Match = %v", got)
		}
		p.do(unsub(4), unsub(6), unsub(2))
		if p.x.Load() != 0 {
			t.Errorf("Load %d", p.x.Load())
		}
	})
}

// P22.1: a Sub or Replace of one that is there, with fewer, more and other conjunctions: just these are owned.
func TestPutAgain(t *testing.T) {
	shards(t, func(p *pair) {
		for round := range 24 {
			conjs := [][]api.Conj{each(1), each(9), {always}, made(t, `a {1} | c "x"* & !a {2} | !c ""*`), nil, {never, never}, each(17), each(3)}[round%8]
			task := sub(3, conjs...)
			if round%3 == 0 {
				task = replace(3, conjs...)
			}
			p.do(task)
			p.hold(events()...)
			if round%5 == 4 {
				p.do(unsub(3))
				p.hold(events()...)
			}
			if round%7 == 0 {
				p.do(sub(round, each(round)...))
				p.hold(events()...)
			}
		}
	})
}

// P22.1: a Replace of what isn't there is as a Sub; a Sub of what is there as a Replace.
func TestSubAndReplaceAreAlike(t *testing.T) {
	chance := rand.New(rand.NewPCG(22, 2))
	for range 60 {
		of := 1 + chance.IntN(api.MaxShards)
		own := chance.IntN(of)
		one, two := newPair(t, own, of), newPair(t, own, of)
		for range 20 {
			task := someTask(t, chance, "a", "c")
			first := one.do(task)
			if task.Kind == api.Sub || task.Kind == api.Replace {
				task.Kind = api.Sub + api.Replace - task.Kind
			}
			if second := two.do(task); !slices.Equal(first[0], second[0]) || one.x.Load() != two.x.Load() {
				t.Fatalf("%v: %v, %v; Load %d, %d", task, first, second, one.x.Load(), two.x.Load())
			}
		}
	}
}

// P22.1: an Unsub of what isn't there, was never or went already, does nothing.
func TestUnsub(t *testing.T) {
	shards(t, func(p *pair) {
		p.do(unsub(1), unsub(0), unsub(-1), unsub(math.MinInt), unsub(math.MaxInt))
		p.do(sub(3, each(9)...), sub(4, each(9)...), sub(5, each(9)...))
		load := p.x.Load()
		// The numbers of conjunctions in an index are no subscriptions.
		for _, id := range []int{math.MinInt, -3, -1, 0, 1, 2, 6, 7, 9, api.MaxID, math.MaxInt} {
			p.do(unsub(id))
			p.hold(events()...)
		}
		if p.x.Load() != load {
			t.Errorf("Load %d, not %d", p.x.Load(), load)
		}
		for _, id := range []int{4, 4, 3, 4, 3, 5, 5} {
			p.do(unsub(id))
			p.hold(events()...)
		}
		if p.x.Load() != 0 {
			t.Errorf("Load %d", p.x.Load())
		}
		p.do(sub(4, each(9)...))
		p.hold(events()...)
	})
}

// P22.1: events as they come: a name twice (the first counts), values out of form, attributes of another kind.
func TestEvents(t *testing.T) {
	shards(t, func(p *pair) {
		p.do(sub(3, made(t, `a {1} | a {2} & c {"y"} | !a {1} & !c "x"* | c "x"* & !a [0, 9] | a [-5, 5] & !c {"xy"} | !a {2}`)...), sub(7, made(t, `c ""* & a {1} | !c ""* & !a {1, 2}`)...))
		p.hold(events()...)
		for _, v := range badValues() {
			p.hold([]api.Pair{{Name: "a", Value: v}}, []api.Pair{{Name: "a", Value: v}, number("a", 1)}, []api.Pair{{Name: "c", Value: v}, number("a", 1)}, []api.Pair{number("a", 1), {Name: "a", Value: v}, word("c", "x")})
		}
	})
}

// P22.1: all rows of four tasks among some, in one shard of one and in the shards of two and three, held behind each.
func TestAllRows(t *testing.T) {
	tasks := []api.Task{
		sub(1, each(2)...), sub(1, always, never, each(1)[0]), replace(2, each(3)...), sub(2), replace(1, each(1)[0], badConjs()[2]), unsub(1), unsub(2), match(number("a", 1)), {Kind: 5, ID: 1},
	}
	const length = 4
	count := 1
	for range length {
		count *= len(tasks)
	}
	for of := 1; of <= 3; of++ {
		for own := range of {
			for row := range count {
				p := newPair(t, own, of)
				for range length {
					p.do(tasks[row%len(tasks)])
					row /= len(tasks)
				}
				p.do(match(), match(number("a", 0)), match(number("a", 1)), match(number("a", 2)))
			}
		}
	}
}

// P22.1: long rows by chance, one by one and many at once.
func TestRowsByChance(t *testing.T) {
	chance := rand.New(rand.NewPCG(22, 3))
	met, several := 0, 0
	for range 150 {
		of := 1 + chance.IntN(api.MaxShards)
		p := newPair(t, chance.IntN(of), of)
		attrs := []string{"a", "b", "c", "d"}[:1+chance.IntN(4)]
		for range 30 {
			var tasks []api.Task
			for range chance.IntN(6) {
				tasks = append(tasks, someTask(t, chance, attrs...))
			}
			for _, piece := range p.do(tasks...) {
				if len(piece) > 0 {
					met++
				}
				if len(piece) > 1 {
					several++
				}
			}
		}
	}
	if met < 800 || several < 300 {
		t.Errorf("%d matches met something, %d several: too few to tell much", met, several)
	}
}
