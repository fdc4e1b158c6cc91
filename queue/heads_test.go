package queue_test

import (
	"slices"
	"testing"

	"trommel/api"
	"trommel/queue"
)

// row are pairs of the room 3, each with so many items; those of the pair i are 10 i + 1, 10 i + 2 and so on.
func row(t *testing.T, held ...int) []*pair[int] {
	t.Helper()
	var pairs []*pair[int]
	for i, count := range held {
		p := newPair[int](t, 3)
		p.put(upTo(10*i+1, count)...)
		pairs = append(pairs, p)
	}
	return pairs
}

// P21.1: of no queues none, and true.
func TestHeadsOfNone(t *testing.T) {
	if got, ok := queue.Heads[int](); len(got) != 0 || !ok {
		t.Errorf("Heads() = %v, %v", got, ok)
	}
	if got, ok := queue.Heads([]*queue.Queue[string]{}...); len(got) != 0 || !ok {
		t.Errorf("Heads of an empty list = %v, %v", got, ok)
	}
}

// P21.1: one queue, several, and an empty one among them: first, in the middle, last.
func TestHeads(t *testing.T) {
	for _, c := range []struct {
		held, want []int
	}{
		{[]int{1}, []int{1}}, {[]int{3}, []int{1}}, {[]int{0}, nil},
		{[]int{1, 1}, []int{1, 11}}, {[]int{3, 1, 2}, []int{1, 11, 21}}, {[]int{2, 2, 2, 2}, []int{1, 11, 21, 31}}, {[]int{1, 2, 3, 1, 2, 3, 1, 2}, []int{1, 11, 21, 31, 41, 51, 61, 71}},
		{[]int{0, 1}, nil}, {[]int{1, 0}, nil}, {[]int{0, 0}, nil}, {[]int{0, 2, 3}, nil}, {[]int{2, 0, 3}, nil}, {[]int{2, 3, 0}, nil}, {[]int{0, 2, 0}, nil}, {[]int{3, 3, 3, 3, 3, 3, 3, 0}, nil},
	} {
		pairs := row(t, c.held...)
		got, ok := headsOf(t, pairs...)
		if !slices.Equal(got, c.want) || ok != (c.want != nil) {
			t.Errorf("%v: Heads = %v, %v", c.held, got, ok)
		}
		for i, p := range pairs {
			left, from := c.held[i], 10*i+1
			if ok {
				left, from = left-1, from+1
			}
			if !slices.Equal(p.q.All(), upTo(from, left)) || p.q.Len() != left || p.q.Room() != 3-left {
				t.Errorf("%v: left of %d is %v", c.held, i, p.q.All())
			}
		}
	}
}

// P21.1: again and again, up to the first queue that is empty; then nothing is taken, however often.
func TestHeadsAgain(t *testing.T) {
	pairs := row(t, 3, 2, 3)
	for i := range 5 {
		got, ok := headsOf(t, pairs...)
		if ok != (i < 2) || ok && !slices.Equal(got, []int{1 + i, 11 + i, 21 + i}) || !ok && len(got) != 0 {
			t.Errorf("%d: Heads = %v, %v", i, got, ok)
		}
	}
	if !slices.Equal(pairs[0].q.All(), []int{3}) || pairs[1].q.Len() != 0 || !slices.Equal(pairs[2].q.All(), []int{23}) {
		t.Error("something was taken behind the first that was empty")
	}
	pairs[1].put(99)
	if got, ok := headsOf(t, pairs...); !slices.Equal(got, []int{3, 99, 23}) || !ok {
		t.Errorf("Heads = %v, %v", got, ok)
	}
}

// P21.1: a queue that stands there several times must have an item each time, and gives them in their order.
func TestHeadsOfOneTwice(t *testing.T) {
	for _, c := range []struct {
		held, order, want []int
	}{
		{[]int{1}, []int{0, 0}, nil}, {[]int{2}, []int{0, 0}, []int{1, 2}}, {[]int{3}, []int{0, 0}, []int{1, 2}}, {[]int{0}, []int{0, 0}, nil}, {[]int{2}, []int{0, 0, 0}, nil}, {[]int{3}, []int{0, 0, 0}, []int{1, 2, 3}}, {[]int{3}, []int{0, 0, 0, 0}, nil},
		{[]int{2, 1}, []int{0, 1, 0}, []int{1, 11, 2}}, {[]int{1, 1}, []int{0, 1, 0}, nil}, {[]int{1, 3}, []int{0, 1, 0}, nil}, {[]int{1, 2}, []int{1, 0, 1}, []int{11, 1, 12}}, {[]int{2, 0}, []int{0, 0, 1}, nil}, {[]int{2, 0}, []int{1, 0, 0}, nil}, {[]int{2, 2}, []int{0, 0, 1, 1}, []int{1, 2, 11, 12}},
		{[]int{2, 2}, []int{0, 1, 1, 0}, []int{1, 11, 12, 2}}, {[]int{2, 1}, []int{0, 1, 1, 0}, nil}, {[]int{1, 2}, []int{0, 1, 1, 0}, nil}, {[]int{3, 3, 3}, []int{2, 0, 2, 1, 2}, []int{21, 1, 22, 11, 23}}, {[]int{3, 1, 2}, []int{2, 0, 2, 1, 2}, nil},
	} {
		made := row(t, c.held...)
		var pairs []*pair[int]
		for _, i := range c.order {
			pairs = append(pairs, made[i])
		}
		got, ok := headsOf(t, pairs...)
		if !slices.Equal(got, c.want) || ok != (c.want != nil) {
			t.Errorf("%v, %v: Heads = %v, %v", c.held, c.order, got, ok)
		}
		left := 0
		for i, p := range made {
			p.hold()
			left += c.held[i] - p.q.Len()
		}
		if left != len(c.want) {
			t.Errorf("%v, %v: %d items went", c.held, c.order, left)
		}
	}
}

// P21.1: queues that stand there as often as they have room, and once more.
func TestHeadsOfOneOften(t *testing.T) {
	for room := 1; room <= api.MaxQueue; room++ {
		p := newPair[int](t, room)
		p.put(upTo(1, room)...)
		if got, ok := headsOf(t, slices.Repeat([]*pair[int]{p}, room+1)...); ok || len(got) != 0 || p.q.Len() != room {
			t.Errorf("Heads of one with %d items, %d times = %v, %v", room, room+1, got, ok)
		}
		if got, ok := headsOf(t, slices.Repeat([]*pair[int]{p}, room)...); !ok || !slices.Equal(got, upTo(1, room)) || p.q.Len() != 0 {
			t.Errorf("Heads of one with %d items, so many times = %v, %v", room, got, ok)
		}
	}
}

// P21.1, P21.2: all rows of up to four queues among three, with all fills.
func TestHeadsAllRows(t *testing.T) {
	for fill := range 4 * 4 * 4 {
		for order := range 4 * 4 * 4 * 4 {
			made := row(t, fill%4, fill/4%4, fill/16)
			var pairs []*pair[int]
			for ; order > 0; order /= 4 {
				if order%4 > 0 {
					pairs = append(pairs, made[order%4-1])
				}
			}
			headsOf(t, pairs...)
			for _, p := range made {
				p.hold()
			}
		}
	}
}

// P21.1, rule 1: very many queues, and one very often.
func TestHeadsOfMany(t *testing.T) {
	const count = 200000
	queues := make([]*queue.Queue[int], count)
	for i := range queues {
		queues[i] = queue.New[int](1)
		queues[i].Put(i)
	}
	if got, ok := queue.Heads(append(queues[:count:count], queues[0])...); ok || len(got) != 0 || queues[0].Len() != 1 || queues[count-1].Len() != 1 {
		t.Error("the first one has no item for the second time")
	}
	got, ok := queue.Heads(queues...)
	if !ok || !slices.Equal(got, upTo(0, count)) {
		t.Error("not all heads were taken")
	}
	if got, ok := queue.Heads(queues...); ok || len(got) != 0 {
		t.Errorf("Heads = %d items, %v", len(got), ok)
	}
	full := queue.New[int](api.MaxQueue)
	full.Put(upTo(1, api.MaxQueue)...)
	if got, ok := queue.Heads(slices.Repeat([]*queue.Queue[int]{full}, count)...); ok || len(got) != 0 || full.Len() != api.MaxQueue {
		t.Errorf("Heads = %v, %v", got, ok)
	}
}
