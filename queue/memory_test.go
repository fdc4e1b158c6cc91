package queue_test

import (
	"runtime"
	"slices"
	"testing"
	"unsafe"
	"weak"

	"trommel/api"
	"trommel/queue"
)

// Rule 5: items that are handed in stay as they were, the spare room too, and their list isn't kept.
func TestItemsHandedInAreLeft(t *testing.T) {
	for room := 1; room <= 8; room++ {
		for held := range room + 1 {
			given := []int{5, 6, 7, 8, 90, 91, 92}
			list := slices.Clone(given)
			p := newPair[int](t, room)
			p.put(upTo(1, held)...)
			p.put(list[:4]...)
			p.take(1)
			p.put(list[1:3]...)
			if !slices.Equal(list, given) {
				t.Fatalf("the items are now %v", list)
			}
			for i := range list {
				list[i] = 77
			}
			p.hold()
			p.take(2)
			p.put(list[:0]...)
			if want := []int{77, 77, 77, 77, 77, 77, 77}; !slices.Equal(list, want) {
				t.Fatalf("the items are now %v", list)
			}
			p.hold()
		}
	}
}

// Rule 5: a new queue that is handed its first items keeps none of their list either, whether it grows or not.
func TestFirstItemsAreNotKept(t *testing.T) {
	list := make([]string, 3, 20)
	copy(list, []string{"x", "y", "z"})
	q := queue.New[string](api.MaxQueue)
	q.Put(list...)
	q.Put("more")
	all := list[:cap(list)]
	if all[3] != "" {
		t.Error("an item was written behind the list that was handed in")
	}
	for i := range all {
		all[i] = "scribble"
	}
	if got := q.All(); !slices.Equal(got, []string{"x", "y", "z", "more"}) {
		t.Errorf("All = %v", got)
	}
}

// Rule 5: the list of queues that is handed to Heads stays as it was, the spare room too.
func TestQueuesHandedInAreLeft(t *testing.T) {
	a, b, c := queue.New[int](2), queue.New[int](2), queue.New[int](2)
	a.Put(1, 2)
	b.Put(3)
	given := []*queue.Queue[int]{b, a, a, c, c}
	list := slices.Clone(given)
	if got, ok := queue.Heads(list[:3]...); !ok || !slices.Equal(got, []int{3, 1, 2}) || !slices.Equal(list, given) {
		t.Errorf("Heads = %v, %v", got, ok)
	}
	if _, ok := queue.Heads(list[:3]...); ok || !slices.Equal(list, given) {
		t.Error("the queues are other ones now")
	}
}

// room is where a list lies, its spare room too.
type room struct{ from, to uintptr }

func roomOf[T any](list []T) room {
	from := uintptr(unsafe.Pointer(unsafe.SliceData(list)))
	return room{from, from + uintptr(cap(list))*unsafe.Sizeof(*new(T))}
}

// holdApart holds that no two lists have anything together.
func holdApart[T any](t *testing.T, lists ...[]T) {
	t.Helper()
	for i, one := range lists {
		for _, other := range lists[:i] {
			a, b := roomOf(one), roomOf(other)
			if a.from < b.to && b.from < a.to {
				t.Fatal("two lists share memory")
			}
		}
	}
}

// scribble writes over a list that was answered, behind its end, and appends to it.
func scribble[T any](list []T, with T) {
	_ = append(list, with, with, with)
	list = list[:cap(list)]
	for i := range list {
		list[i] = with
	}
}

// Rule 5: what is answered is new memory: neither a queue nor another answer sees what is written there.
func TestAnswersAreNew(t *testing.T) {
	for room := 1; room <= api.MaxQueue; room++ {
		p, other := newPair[int](t, room), newPair[int](t, room)
		next := 0
		for round := range 3 * room {
			given := upTo(next, room)
			next += p.put(given...)
			other.put(given...)
			one, two := p.q.All(), p.q.All()
			first, _ := headsOf(t, p, other)
			taken := p.take(1 + round%room)
			rest, none := p.q.All(), p.take(0)
			keep := [][]int{slices.Clone(two), slices.Clone(taken), slices.Clone(first)}
			holdApart(t, given, one, two, first, taken, rest, none)
			scribble(one, 77)
			scribble(rest, 77)
			scribble(none, 77)
			scribble(given, 77)
			if !slices.Equal(two, keep[0]) || !slices.Equal(taken, keep[1]) || !slices.Equal(first, keep[2]) {
				t.Fatal("an answer sees what is written into another one")
			}
			p.hold()
			other.hold()
			next += p.put(upTo(next, 2)...)
			scribble(two, 78)
			scribble(taken, 78)
			scribble(first, 78)
			p.hold()
			other.take(room)
		}
	}
}

// Rule 5: what was answered stays, whatever becomes of the queue.
func TestAnswersStay(t *testing.T) {
	p := newPair[int](t, 5)
	p.put(1, 2, 3, 4, 5)
	all := p.q.All()
	first, _ := headsOf(t, p)
	taken := p.take(2)
	left := p.q.All()
	for i := range 40 {
		p.put(upTo(100*i, i%7)...)
		p.take(i % 4)
		headsOf(t, p)
	}
	if !slices.Equal(all, upTo(1, 5)) || !slices.Equal(first, []int{1}) || !slices.Equal(taken, []int{2, 3}) || !slices.Equal(left, []int{4, 5}) {
		t.Errorf("answered were %v, %v, %v, %v", all, first, taken, left)
	}
}

// P21.2: what was taken, or didn't fit, is not kept: its memory is free while the queue is used.
func TestTakenIsFree(t *testing.T) {
	for room := 1; room <= api.MaxQueue; room++ {
		q := queue.New[*[1 << 12]int](room)
		var gone, held []weak.Pointer[[1 << 12]int]
		put := func(count int) {
			for range count {
				item := new([1 << 12]int)
				if q.Put(item) == 1 {
					held = append(held, weak.Make(item))
				} else {
					gone = append(gone, weak.Make(item))
				}
			}
		}
		take := func(count int) {
			gone, held = append(gone, held[:count]...), held[count:]
		}
		put(room + 1)
		q.Take(room/2 + 1)
		take(room/2 + 1)
		put(2)
		if _, ok := queue.Heads(q); ok {
			take(1)
		}
		runtime.GC()
		runtime.GC()
		for i, item := range gone {
			if item.Value() != nil {
				t.Errorf("room %d: number %d of %d that have gone is kept", room, i, len(gone))
			}
		}
		for _, item := range held {
			if item.Value() == nil {
				t.Errorf("room %d: one that is in isn't kept", room)
			}
		}
		runtime.KeepAlive(q)
	}
}
