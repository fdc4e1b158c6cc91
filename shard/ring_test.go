package shard_test

import (
	"math/rand/v2"
	"slices"
	"strings"
	"testing"

	"trommel/api"
	"trommel/conj"
	"trommel/eval"
	"trommel/key"
	"trommel/shard"
	"trommel/value"
)

// P22.2: for every number of shards the same tasks; the merged answers are those of one shard of one, and of an index; the Loads sum to all conjunctions.
func TestAllShardsTogether(t *testing.T) {
	for of := 1; of <= api.MaxShards; of++ {
		r := newRing(t, of)
		r.hold(events()...)
		r.do(sub(3, each(3)...), match(number("a", 1)), sub(4, made(t, `a {1} & !c "x"* | c {"xy"} | !a {1}`)...), match(number("a", 1)), sub(5, always))
		r.hold(events()...)
		r.do(replace(3, each(20)...), sub(1, never, never, always), sub(api.MaxID, each(11)...), sub(2))
		r.hold(events()...)
		if want := 20 + 3 + 1 + 3 + 11; r.x.Conjs() != want {
			t.Errorf("%d conjunctions, not %d", r.x.Conjs(), want)
		}
		r.do(sub(4, slices.Insert(each(9), 5, badConjs()[3])...), sub(0, always), replace(-1, always), sub(api.MaxID+1, always), api.Task{ID: 4}, unsub(99))
		r.hold(events()...)
		r.do(unsub(3), match(number("a", 2)), unsub(5), unsub(2), match(), replace(1, each(2)...), match(number("a", 1)))
		r.hold(events()...)
		r.do(unsub(1), unsub(4), unsub(api.MaxID))
		r.hold(events()...)
		if r.x.Conjs() != 0 {
			t.Errorf("%d conjunctions are left", r.x.Conjs())
		}
	}
}

// P22.2, P8: long rows by chance; the merged answers hang on the number of shards nowhere.
func TestAllShardsByChance(t *testing.T) {
	chance := rand.New(rand.NewPCG(22, 4))
	apart := 0
	for range 30 {
		attrs := []string{"a", "b", "c", "d"}[:1+chance.IntN(4)]
		var rings []*ring
		for of := 1; of <= api.MaxShards; of++ {
			rings = append(rings, newRing(t, of))
		}
		for range 15 {
			var tasks []api.Task
			for range chance.IntN(6) {
				tasks = append(tasks, someTask(t, chance, attrs...))
			}
			var first [][]int
			for i, r := range rings {
				merged := r.do(tasks...)
				if i == 0 {
					first = merged
				}
				if !slices.EqualFunc(merged, first, slices.Equal[[]int]) {
					t.Fatalf("%d shards: %v, one %v", i+1, merged, first)
				}
			}
			// Loads lie apart, or the merged answers tell little.
			last := rings[len(rings)-1]
			if last.shards[0].x.Load() > 0 && last.shards[5].x.Load() > 0 {
				apart++
			}
		}
	}
	if apart < 100 {
		t.Errorf("only %d times the conjunctions lay apart: too few to tell much", apart)
	}
}

// P22.2: each conjunction belongs to just one shard, and to that which Owner names.
func TestEachBelongsToOne(t *testing.T) {
	for of := 1; of <= api.MaxShards; of++ {
		for _, id := range []int{1, 2, 7, 8, 9, 1<<40 - 1, 1 << 40} {
			r := newRing(t, of)
			r.do(sub(id, each(17)...))
			for j := range 17 {
				var owners []int
				for own, p := range r.shards {
					if len(p.x.Do(match(number("a", j)))[0]) > 0 {
						owners = append(owners, own)
					}
				}
				if want := []int{shard.Owner(id, j, of)}; !slices.Equal(owners, want) {
					t.Errorf("%d shards: conjunction %d of %d belongs to %v, not %v", of, j, id, owners, want)
				}
			}
			for own, p := range r.shards {
				if even := 17 / of; p.x.Load() < even || p.x.Load() > even+1 {
					t.Errorf("shard %d of %d: Load %d", own, of, p.x.Load())
				}
			}
		}
	}
}

// P2, P8: expressions from trees to shards: the merged answers are what the evaluator says of the trees.
func TestOneMeaning(t *testing.T) {
	chance := rand.New(rand.NewPCG(22, 5))
	yes, no := 0, 0
	for range 250 {
		attrs := []string{"a", "b", "c", "d"}[:1+chance.IntN(4)]
		r := newRing(t, 1+chance.IntN(api.MaxShards))
		trees := map[int]api.Node{}
		for range 6 {
			id, n := 1+chance.IntN(5), someTree(chance, 3, attrs...)
			conjs, e := conj.All(n, api.MaxConj)
			if e != api.OK {
				continue
			}
			trees[id] = n
			r.do(sub(id, conjs...))
		}
		for range 6 {
			event := someEvent(chance, attrs...)
			got := r.do(match(event...))[0]
			for id, n := range trees {
				want := eval.Eval(n, event)
				if slices.Contains(got, id) != want {
					t.Fatalf("%d shards: %v of %v: %v", len(r.shards), event, n, got)
				}
				if want {
					yes++
				} else {
					no++
				}
			}
		}
	}
	if yes < 1000 || no < 1000 {
		t.Errorf("true %d times, false %d times: too few to tell much", yes, no)
	}
}

// P2: texts, as they come to the shards by way of parse and conj.All.
func TestTexts(t *testing.T) {
	texts := []string{
		"a {1}", "!a {1}", "!!a {1}", `a {1, 2} & !c "x"*`, "(a {1} | b {2}) & (a {3} | b {4})", "a {1} & a {3}", "a {1} & !a {1}", "a {1} | !a {1}", "!(a {1} & b {2})", `!(a {1} & !(b {2} | c {"x"}))`, "a [0, 7]", "a [5, 3]", "!a [5, 3]",
		`c ""*`, `!c ""*`, `c "x"* & c "xy"*`, `c {"", "x"} & !c {"x"}`, `(c "x"* | a {1}) & (c "y"* | a {2}) & (a {1, 2} | b {1})`, "a {0} | a {1} | a {2} | a {3} | a {4} | a {5} | b {1} | b {2} | b {3}",
	}
	for of := 1; of <= api.MaxShards; of++ {
		r := newRing(t, of)
		for i, text := range texts {
			r.do(sub(i+1, made(t, text)...))
		}
		for _, event := range append(events(), []api.Pair{number("a", 3), number("b", 4)}, []api.Pair{number("a", 1), number("b", 2), word("c", "y")}, []api.Pair{number("b", 2), word("c", "")}) {
			var want []int
			for i, text := range texts {
				if eval.Eval(parsed(t, text), event) {
					want = append(want, i+1)
				}
			}
			if got := r.do(match(event...))[0]; !slices.Equal(got, want) {
				t.Errorf("%d shards: Match(%v) = %v, not %v", of, event, got, want)
			}
		}
	}
}

// first is the value of the first pair of a name, if it is in form.
func first(event []api.Pair, name string) (api.Value, bool) {
	for _, p := range event {
		if p.Name == name {
			return p.Value, value.Check(p.Value) == api.OK
		}
	}
	return api.Value{}, false
}

// yields tells whether an event yields a list, as P4 tells it.
func yields(event []api.Pair, o api.Opened) bool {
	v, ok := first(event, o.Attr)
	switch o.Kind {
	case api.KeyInt:
		return ok && v.Kind == api.KindInt && v.Int == o.Int
	case api.KeySpan:
		return ok && v.Kind == api.KindInt && (v.Int-api.Least)>>o.Level == o.Key.Int
	case api.KeyWord:
		return ok && v.Kind == api.KindWord && v.Word == o.Word
	case api.KeyPrefix:
		return ok && v.Kind == api.KindWord && strings.HasPrefix(v.Word, o.Word)
	}
	return o.Key == key.Zero() && o.Part == 0
}

// P4: a shard's match opens lists of the event itself, in partitions up to the number of its attributes, and those of its own conjunctions alone; what it answers it has judged.
func TestLooks(t *testing.T) {
	chance := rand.New(rand.NewPCG(22, 6))
	opened := 0
	for range 120 {
		of := 1 + chance.IntN(api.MaxShards)
		p := newPair(t, chance.IntN(of), of)
		for range 12 {
			p.do(someTask(t, chance, "a", "b", "c"))
		}
		for range 8 {
			event := someEvent(chance, "a", "b", "c")
			trace := p.x.Trace(event)
			names := 0
			for _, name := range []string{"a", "b", "c"} {
				if _, ok := first(event, name); ok {
					names++
				}
			}
			for _, o := range trace.Lists {
				opened++
				if !yields(event, o) || o.Part < 0 || o.Part > names || o.Posts > 2*p.s.load() {
					t.Fatalf("%v: a match of %v opens %v", p.s, event, o)
				}
			}
			var judged []int
			for _, n := range trace.Judged {
				judged = append(judged, p.x.Owner(n))
			}
			for _, id := range p.do(match(event...))[0] {
				if !slices.Contains(judged, id) {
					t.Fatalf("%v: Match(%v) names %d, of which nothing was judged", p.s, event, id)
				}
			}
		}
	}
	if opened < 500 {
		t.Errorf("only %d lists were opened: too few to tell much", opened)
	}
}
