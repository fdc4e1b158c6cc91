package shard_test

import (
	"math"
	"math/rand/v2"
	"slices"
	"testing"

	"trommel/api"
	"trommel/shard"
)

// P22.1: the chapter's examples.
func TestExamples(t *testing.T) {
	zero, one := newShard(t, 0, 2), newShard(t, 1, 2)
	task := sub(3, each(3)...)
	zero.Do(task)
	one.Do(task)
	if zero.Load() != 1 || one.Load() != 2 {
		t.Errorf("Load %d, %d", zero.Load(), one.Load())
	}
	for j := range 3 {
		asked := match(number("a", j))
		got, other := one.Do(asked), zero.Do(asked)
		if j == 1 {
			got, other = other, got
		}
		if !slices.Equal(got[0], []int{3}) || len(other[0]) != 0 {
			t.Errorf("of c%d: %v, %v", j, got, other)
		}
	}
	zero.Do(unsub(3))
	one.Do(unsub(3))
	if zero.Load() != 0 || one.Load() != 0 {
		t.Errorf("Load %d, %d", zero.Load(), one.Load())
	}
	if got := shard.Owner(3, 1, 2); got != 0 {
		t.Errorf("Owner(3, 1, 2) = %d", got)
	}
	for _, c := range [][2]int{{2, 2}, {0, 9}} {
		if s, e := shard.New(c[0], c[1]); s != nil || e != api.ErrRange {
			t.Errorf("New(%d, %d) = %v, %d", c[0], c[1], s, e)
		}
	}
}

// P22.1: of from 0 to MaxShards + 1, own from -1 to of, and the outermost numbers.
func TestNew(t *testing.T) {
	if api.MaxShards != 8 {
		t.Fatalf("MaxShards is %d", api.MaxShards)
	}
	numbers := []int{math.MinInt, math.MinInt + 1, -1 << 32, -8, -2}
	for n := -1; n <= api.MaxShards+2; n++ {
		numbers = append(numbers, n)
	}
	numbers = append(numbers, 16, 1<<32, 1<<32+1, math.MaxInt-1, math.MaxInt)
	good := 0
	for _, of := range numbers {
		for _, own := range numbers {
			s, e := shard.New(own, of)
			if of < 1 || of > 8 || own < 0 || own >= of {
				if s != nil || e != api.ErrRange {
					t.Errorf("New(%d, %d) = %v, %d", own, of, s, e)
				}
				continue
			}
			good++
			if s == nil || e != api.OK || s.Load() != 0 || len(s.Do(match(number("a", 1)))[0]) != 0 {
				t.Errorf("New(%d, %d) = %v, %d", own, of, s, e)
			}
		}
	}
	if good != 36 {
		t.Errorf("%d may be", good)
	}
}

// P22.1: Owner at and beyond the edges of each argument.
func TestOwner(t *testing.T) {
	numbers := []int{math.MinInt, -1 << 40, -1 << 32, -2, -1, 0, 1, 2, 3, 7, 8, 9, 1 << 32, api.MaxID - 1, api.MaxID, api.MaxID + 1, 1 << 41, math.MaxInt - 1, math.MaxInt}
	for _, id := range numbers {
		for _, j := range numbers {
			for _, of := range append(numbers, 4, 5, 6) {
				want := -1
				if id >= 0 && id <= 1<<40 && j >= 0 && j <= 1<<40 && of >= 1 && of <= 8 {
					want = int((uint64(id) + uint64(j)) % uint64(of))
				}
				if got := shard.Owner(id, j, of); got != want {
					t.Errorf("Owner(%d, %d, %d) = %d, not %d", id, j, of, got, want)
				}
			}
		}
	}
	for _, c := range [][4]int{{0, 0, 1, 0}, {5, 9, 1, 0}, {1, 0, 8, 1}, {7, 0, 8, 7}, {7, 1, 8, 0}, {api.MaxID, api.MaxID, 7, 4}, {api.MaxID, 1, 8, 1}, {0, 3, 8, 3}, {0, 0, 9, -1}, {0, 0, 0, -1}, {-1, 1, 2, -1}, {1, -1, 2, -1}} {
		if got := shard.Owner(c[0], c[1], c[2]); got != c[3] {
			t.Errorf("Owner(%d, %d, %d) = %d, not %d", c[0], c[1], c[2], got, c[3])
		}
	}
}

// P22.1: Merge of no pieces, of empty ones, of numbers that stand in several or twice in one, of pieces in any order.
func TestMerge(t *testing.T) {
	for _, c := range []struct {
		pieces [][]int
		want   []int
	}{
		{nil, nil}, {[][]int{}, nil}, {[][]int{nil}, nil}, {[][]int{{}, nil, {}}, nil}, {[][]int{{5}}, []int{5}}, {[][]int{{1, 2, 3}}, []int{1, 2, 3}}, {[][]int{{3, 2, 1}}, []int{1, 2, 3}}, {[][]int{{3, 1}, {3}}, []int{1, 3}}, {[][]int{{3}, {3, 1}}, []int{1, 3}},
		{[][]int{{2, 2, 2}}, []int{2}}, {[][]int{{2, 1, 2, 1}, {}, {1, 3, 1}}, []int{1, 2, 3}}, {[][]int{{1}, {1}, {1}}, []int{1}}, {[][]int{{9, 8}, nil, {7}, {8, 10}}, []int{7, 8, 9, 10}}, {[][]int{{1, 3}, {2, 4}, {0, 5}}, []int{0, 1, 2, 3, 4, 5}}, {[][]int{{4, 5}, {1, 2}}, []int{1, 2, 4, 5}},
		{[][]int{{0, -1}, {math.MaxInt, math.MinInt}, {-1, math.MinInt}}, []int{math.MinInt, -1, 0, math.MaxInt}}, {[][]int{{10, 9, 100}}, []int{9, 10, 100}}, {[][]int{{api.MaxID}, {1, api.MaxID}}, []int{1, api.MaxID}},
	} {
		if got := shard.Merge(c.pieces...); !slices.Equal(got, c.want) {
			t.Errorf("Merge(%v) = %v, not %v", c.pieces, got, c.want)
		}
	}
}

// P22.1: Merge by chance: what is in one of the pieces, and no more, in whatever order they come.
func TestMergeByChance(t *testing.T) {
	chance := rand.New(rand.NewPCG(22, 1))
	for range 500 {
		pieces := make([][]int, chance.IntN(9))
		var want []int
		for i := range pieces {
			for range chance.IntN(9) {
				pieces[i] = append(pieces[i], chance.IntN(12)-3)
			}
		}
		for n := -4; n < 10; n++ {
			if slices.ContainsFunc(pieces, func(piece []int) bool { return slices.Contains(piece, n) }) {
				want = append(want, n)
			}
		}
		for range 3 {
			if got := shard.Merge(pieces...); !slices.Equal(got, want) {
				t.Fatalf("Merge(%v) = %v, not %v", pieces, got, want)
			}
			chance.Shuffle(len(pieces), func(i, j int) { pieces[i], pieces[j] = pieces[j], pieces[i] })
		}
	}
}

// P22.1, rule 6: shards have nothing to do with one another, those of one number neither.
func TestSideBySide(t *testing.T) {
	one, two, other := newPair(t, 1, 2), newPair(t, 1, 2), newPair(t, 0, 2)
	if one.x == two.x {
		t.Fatal("two shards are one")
	}
	hold := func() {
		t.Helper()
		for _, p := range []*pair{one, two, other} {
			p.hold(events()...)
		}
	}
	one.do(sub(3, each(4)...))
	hold()
	two.do(sub(3, always, never), sub(4, each(3)...))
	hold()
	other.do(sub(3, made(t, `c "x"* | a {1}`)...))
	hold()
	one.do(unsub(3))
	hold()
	two.do(replace(3, each(2)...), unsub(9))
	hold()
	other.do(unsub(3), sub(1, each(5)...))
	hold()
}

// P22.1, rule 6: one task, by one list, to all shards: none sees that another one did it.
func TestSameTasksToAll(t *testing.T) {
	tasks := []api.Task{sub(3, each(5)...), match(number("a", 2)), replace(3, each(3)...), sub(4, always), match(number("a", 2)), unsub(3), match()}
	for of := 1; of <= api.MaxShards; of++ {
		for own := range of {
			newPair(t, own, of).do(tasks...)
			newPair(t, own, of).do(tasks...)
		}
	}
}
