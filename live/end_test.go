package live_test

import (
	"math/rand/v2"
	"runtime"
	"slices"
	"strings"
	"sync"
	"testing"
	"testing/synctest"

	"trommel/api"
	"trommel/live"
)

// running is how many goroutines there are that the package has begun.
func running() int {
	stacks := make([]byte, 1<<20)
	return strings.Count(string(stacks[:runtime.Stack(stacks, true)]), "created by trommel/live.")
}

// alone holds, within a bubble, that a call leaves no goroutine behind, not even one that waits.
func alone(t *testing.T, call func()) {
	t.Helper()
	synctest.Test(t, func(t *testing.T) {
		call()
		// Behind its last act a goroutine may need a moment to go; one that waits for something stays.
		synctest.Wait()
		if count := running(); count > 0 {
			t.Fatalf("%d goroutines are left", count)
		}
	})
}

// Chapter 24: all goroutines have ended when Serve and Fan answer.
func TestGoroutinesEnd(t *testing.T) {
	chance := rand.New(rand.NewPCG(24, 5))
	s := attributes(t)
	for _, c := range configs(most, false) {
		calls := someCalls(chance, chance.IntN(60))
		alone(t, func() { live.Serve(c, s) })
		alone(t, func() { live.Serve(c, s, calls...) })
	}
	for _, shards := range counts() {
		subs := someSubs(t, chance, chance.IntN(40))
		list := make([][]api.Pair, chance.IntN(60))
		for i := range list {
			list[i] = someEvent(chance)
		}
		alone(t, func() { live.Fan(shards, nil) })
		alone(t, func() { live.Fan(shards, subs) })
		alone(t, func() { live.Fan(shards, nil, list...) })
		alone(t, func() { live.Fan(shards, subs, list...) })
	}
}

// Rule 6: many calls at the same time, with one schema and the same lists handed in, have nothing to do with one another.
func TestAtTheSameTime(t *testing.T) {
	chance := rand.New(rand.NewPCG(24, 6))
	s := attributes(t)
	calls, subs := someCalls(chance, 60), someSubs(t, chance, 20)
	list := append(events(), badEvents()...)
	want, rows := wantServe(config(most, 1, 1), s, calls), wantFan(subs, list)
	var all sync.WaitGroup
	for i := range 32 {
		all.Go(func() {
			if got := live.Serve(config(most, 1+i%8, 1+i%16), s, calls...); !sameAnswers(got, want) {
				t.Errorf("Serve = %v, not %v", got, want)
			}
			if got := live.Fan(i%10, subs, list...); !sameLists(got, rows) {
				t.Errorf("Fan = %v, not %v", got, rows)
			}
		})
	}
	all.Wait()
}

// seen is how many goroutines of the package were running at once while some call was under way; it is made again till there were so many, but not for ever.
func seen(enough int, call func()) int {
	count := 0
	for round := 0; round < 50 && count < enough; round++ {
		ended := make(chan struct{})
		go func() {
			defer close(ended)
			call()
		}()
		for open := true; open; {
			select {
			case <-ended:
				open = false
			default:
				count = max(count, running())
			}
		}
	}
	return count
}

// Ways: each shard is a goroutine of its own.
func TestShardsAreGoroutines(t *testing.T) {
	s := attributes(t)
	calls := []api.Call{sub("!(" + wide(64) + ")")}
	for range 400 {
		calls = append(calls, match(number("a", 2)))
	}
	subs := [][]api.Conj{{mustNot(ints("a", 1), ints("b", 1))}}
	list := slices.Repeat([][]api.Pair{{number("a", 2)}}, 400)
	for _, shards := range []int{1, 3, api.MaxShards} {
		if got := seen(shards, func() { live.Serve(config(most, shards, 1), s, calls...) }); got < shards {
			t.Errorf("Serve with %d shards: %d goroutines", shards, got)
		}
		if got := seen(shards, func() { live.Fan(shards, subs, list...) }); got < shards {
			t.Errorf("Fan with %d shards: %d goroutines", shards, got)
		}
	}
}
