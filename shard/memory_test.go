package shard_test

import (
	"reflect"
	"runtime"
	"slices"
	"testing"
	"unsafe"

	"trommel/api"
	"trommel/shard"
)

// handed is a list of tasks with spare room, whose lists all have some too, and those rooms whole.
type handed struct {
	tasks []api.Task
	conjs []api.Conj
	pairs []api.Pair
	preds [][]api.Pred
	xs    [][]int
	ws    [][]string
}

func roomy() handed {
	xs, more := []int{5, 6, 90, 91}, []int{5, 7, 92}
	ws, begin := []string{"x", "xy", "spare", "room"}, []string{"x", "spare"}
	pos := []api.Pred{{Kind: api.PredInts, Attr: "a", Ints: xs[:2]}, {Kind: api.PredWords, Attr: "c", Words: ws[:2]}, ints("spare", 90), ints("room", 91)}
	neg := []api.Pred{{Kind: api.PredInts, Attr: "a", Ints: more[:2]}, {Kind: api.PredPrefix, Attr: "d", Words: begin[:1]}, ints("spare", 92)}
	conjs := []api.Conj{{Pos: pos[:2], Neg: neg[:2]}, {Neg: neg[:1]}, {Pos: pos[:1]}, {Pos: pos[2:3]}, never}
	pairs := []api.Pair{word("c", "xy"), number("a", 6), number("a", 5), {Name: "b"}, number("spare", 90), number("room", 91)}
	tasks := []api.Task{{Kind: api.Sub, ID: 7, Conjs: conjs[:3]}, {Kind: api.Match, Event: pairs[:4]}, {Kind: api.Replace, ID: 7, Conjs: conjs[:2]}, {Kind: api.Match, Event: pairs[:4]}, {Kind: api.Sub, ID: 8, Conjs: conjs[:3]}, {Kind: api.Unsub, ID: 9}, {Kind: api.Unsub, ID: 7}, {Kind: api.Unsub, ID: 8}}
	return handed{tasks, conjs, pairs, [][]api.Pred{pos, neg}, [][]int{xs, more}, [][]string{ws, begin}}
}

// write writes over all of it.
func (h handed) write() {
	for _, list := range h.xs {
		for i := range list {
			list[i] = 77
		}
	}
	for _, list := range h.ws {
		for i := range list {
			list[i] = "scribble"
		}
	}
	for _, list := range h.preds {
		for i := range list {
			list[i] = ints("scribble", 77)
		}
	}
	for i := range h.conjs {
		h.conjs[i] = always
	}
	for i := range h.pairs {
		h.pairs[i] = number("scribble", 77)
	}
	for i := range h.tasks {
		h.tasks[i] = api.Task{Kind: api.Unsub, ID: 8}
	}
}

// Rule 5: tasks that are handed in stay as they were, with all their lists and the spare room, and aren't kept.
func TestTasksHandedInAreLeft(t *testing.T) {
	looks := [][]api.Pair{{number("a", 6), word("c", "xy")}, {number("a", 5), word("c", "x"), word("d", "xx")}, {number("a", 6), word("c", "x"), word("d", "y")}, {number("a", 77), word("c", "scribble")}, {number("spare", 90)}, {number("scribble", 77)}}
	shards(t, func(p *pair) {
		h := roomy()
		// The sheet keeps conjunctions of its own.
		got := p.do(h.tasks[:6]...)
		if !reflect.DeepEqual(h, roomy()) {
			t.Fatalf("handed in was changed: %v", h)
		}
		keep := [][]int{slices.Clone(got[1]), slices.Clone(got[3])}
		h.write()
		if !slices.Equal(got[1], keep[0]) || !slices.Equal(got[3], keep[1]) {
			t.Fatal("an answer sees what is written into what was handed in")
		}
		p.hold(looks...)
		bad := roomy()
		bad.conjs[1], bad.conjs[4] = badConjs()[2], badConjs()[8]
		same := roomy()
		same.conjs[1], same.conjs[4] = badConjs()[2], badConjs()[8]
		if p.do(bad.tasks[:6]...); !reflect.DeepEqual(bad, same) {
			t.Fatalf("handed in was changed: %v", bad)
		}
		p.hold(looks...)
	})
}

// Rule 5: one list of conjunctions in several tasks, and one list of tasks to all shards: what one does to its own the others don't see.
func TestSharedLists(t *testing.T) {
	h := roomy()
	tasks := append(h.tasks[:0:0], h.tasks[:6]...)
	for of := 1; of <= api.MaxShards; of++ {
		r := newRing(t, of)
		r.do(tasks...)
		r.hold([]api.Pair{number("a", 6), word("c", "xy")}, []api.Pair{number("a", 5)})
		r.do(sub(1, h.conjs[:4]...), sub(2, h.conjs[:4]...), unsub(1), unsub(7))
		r.hold([]api.Pair{number("a", 6), word("c", "xy")}, []api.Pair{number("a", 5)}, []api.Pair{number("spare", 90)})
	}
	if !reflect.DeepEqual(h, roomy()) {
		t.Errorf("handed in was changed: %v", h)
	}
}

// Rule 5: pieces that are handed to Merge stay as they were, the spare room too, and aren't kept.
func TestPiecesHandedInAreLeft(t *testing.T) {
	one, two := []int{3, 1, 3, 90}, []int{2, 3, 91}
	pieces := [][]int{one[:3], two[:2], nil, {92}}
	got := shard.Merge(pieces[:3]...)
	if !slices.Equal(one, []int{3, 1, 3, 90}) || !slices.Equal(two, []int{2, 3, 91}) || len(pieces[0]) != 3 || len(pieces[1]) != 2 || pieces[2] != nil || !slices.Equal(pieces[3], []int{92}) {
		t.Errorf("the pieces are now %v, %v, %v", one, two, pieces)
	}
	for i := range two {
		one[i], two[i] = 77, 77
	}
	if !slices.Equal(got, []int{1, 2, 3}) {
		t.Errorf("Merge = %v", got)
	}
}

// room is where a list lies, its spare room too.
type room struct{ from, to uintptr }

func roomOf[T any](list []T) room {
	from := uintptr(unsafe.Pointer(unsafe.SliceData(list)))
	return room{from, from + uintptr(cap(list))*unsafe.Sizeof(*new(T))}
}

// holdApart holds that no two rooms have anything together.
func holdApart(t *testing.T, rooms []room) {
	t.Helper()
	for i, a := range rooms {
		for _, b := range rooms[:i] {
			if a.from < b.to && b.from < a.to {
				t.Fatal("two lists share memory")
			}
		}
	}
}

// scribble writes over a list that was answered, behind its end, and appends to it.
func scribble[T any](list []T, with T) {
	_ = append(list, with, with, with)
	list = list[:cap(list)]
	for i := range list {
		list[i] = with
	}
}

// Rule 5: what Do answers is new memory: neither the shard nor another answer sees what is written there.
func TestAnswersAreNew(t *testing.T) {
	shards(t, func(p *pair) {
		p.do(sub(4, each(9)...), sub(5, slices.Repeat([]api.Conj{always}, 8)...), sub(6, made(t, "!a {1} | a {1} | a {2} | a {3}")...))
		event := []api.Pair{number("a", 1), word("c", "x")}
		for range 3 {
			tasks := []api.Task{match(event...), match(event...), unsub(9), match(), sub(8, always), match(event...)}
			one, two := p.do(tasks...), p.do(tasks...)
			rooms := []room{roomOf(event), roomOf(tasks), roomOf(one), roomOf(two)}
			for _, piece := range slices.Concat(one, two) {
				rooms = append(rooms, roomOf(piece))
			}
			holdApart(t, rooms)
			keep := make([][]int, len(two))
			for i, piece := range two {
				keep[i] = slices.Clone(piece)
			}
			for _, piece := range one {
				scribble(piece, 99)
			}
			scribble(one, []int{99})
			if !slices.EqualFunc(two, keep, slices.Equal[[]int]) {
				t.Fatal("an answer sees what is written into another one")
			}
			p.hold(append(events(), event)...)
			scribble(two, nil)
			p.do(replace(4, each(3)...), unsub(8))
			p.hold(append(events(), event)...)
		}
	})
}

// Rule 5: what Merge answers is new memory, of one piece too, and of one that rises.
func TestMergeIsNew(t *testing.T) {
	for _, pieces := range [][][]int{{{1, 2, 3}}, {{3, 2, 1, 1}}, {nil, {1, 2}}, {{1, 2}, {}}, {{1}, {2}, {3}}, {make([]int, 0, 8), {4}}, {make([]int, 0, 8)}} {
		keep := make([][]int, len(pieces))
		var rooms []room
		for i, piece := range pieces {
			keep[i] = slices.Clone(piece)
			rooms = append(rooms, roomOf(piece))
		}
		one, two := shard.Merge(pieces...), shard.Merge(pieces...)
		holdApart(t, append(rooms, roomOf(one), roomOf(two)))
		want := slices.Clone(two)
		scribble(one, 99)
		if !slices.Equal(two, want) || !slices.EqualFunc(pieces, keep, slices.Equal[[]int]) {
			t.Errorf("what is written into an answer is seen: %v, %v", two, pieces)
		}
	}
}

// Rule 5: what was answered stays, whatever becomes of the shard.
func TestAnswersStay(t *testing.T) {
	shards(t, func(p *pair) {
		p.do(sub(3, each(9)...), sub(9, slices.Repeat([]api.Conj{always}, 8)...))
		got := p.do(match(number("a", 1)), unsub(1), match())
		keep := [][]int{slices.Clone(got[0]), nil, slices.Clone(got[2])}
		for id := 1; id < 40; id++ {
			p.do(sub(id, each(id%5)...), unsub(id/2), match(number("a", 1)), replace(9, always, never))
		}
		if !slices.EqualFunc(got, keep, slices.Equal[[]int]) {
			t.Errorf("answered was %v, not %v", got, keep)
		}
	})
}

// heap is how much is in use behind all that is no longer needed.
func heap() uint64 {
	runtime.GC()
	runtime.GC()
	var m runtime.MemStats
	runtime.ReadMemStats(&m)
	return m.HeapAlloc
}

// P22.1: a shard doesn't grow with what it has been told: what went, and what belongs to others, isn't kept.
func TestWhatWentIsFree(t *testing.T) {
	s := newShard(t, 1, 2)
	s.Do(sub(1, each(3)...))
	before := heap()
	const count = 20000
	for id := 2; id <= count; id++ {
		some := []api.Conj{{Neg: []api.Pred{ints("b", id*16)}}, {Pos: []api.Pred{ints("a", id*8)}}, never}
		s.Do(sub(id, some...), replace(id, some[1], some[0]), replace(1, each(3)...), replace(id, some[2], some[0]), unsub(id))
		// Of such a one this shard owns nothing.
		s.Do(sub(2*id, always), sub(2*id+1), replace(count, []api.Conj{}...))
	}
	if s.Load() != 2 {
		t.Errorf("Load %d", s.Load())
	}
	if after := heap(); after > before+1<<18 {
		t.Errorf("%d bytes are kept", after-before)
	}
	if got := s.Do(match(number("a", 2)), match(number("a", 1))); !slices.Equal(got[0], []int{1}) || len(got[1]) != 0 {
		t.Errorf("Match = %v", got)
	}
}

// P22.1: of many that go the room is free too, whether all went or some are left.
func TestManyThatGo(t *testing.T) {
	const count = 20000
	s := newShard(t, 0, 1)
	s.Do(sub(api.MaxID, each(3)...))
	before := heap()
	for round := range 3 {
		for id := 1; id <= count; id++ {
			s.Do(sub(id, api.Conj{Neg: []api.Pred{ints("b", id*16+round)}}, api.Conj{Pos: []api.Pred{ints("a", 1000+id*8)}}))
		}
		if s.Load() != 2*count+3 {
			t.Fatalf("Load %d", s.Load())
		}
		for id := 1; id <= count; id++ {
			s.Do(unsub(id))
		}
		if s.Load() != 3 {
			t.Fatalf("Load %d", s.Load())
		}
	}
	if after := heap(); after > before+1<<18 {
		t.Errorf("%d bytes are kept", after-before)
	}
	if got := s.Do(match(number("a", 2), number("b", 1))); !slices.Equal(got[0], []int{api.MaxID}) {
		t.Errorf("Match = %v", got)
	}
}
