package queue_test

import (
	"slices"
	"testing"

	"trommel/queue"
)

// line is a queue as the chapter tells it: items that stand one behind the
// other, and how many of them may.
type line[T any] struct {
	items []T
	most  int
}

func newLine[T any](room int) *line[T] {
	if room < 1 {
		room = 1
	}
	if room > 16 {
		room = 16
	}
	return &line[T]{most: room}
}

func (l *line[T]) put(items ...T) int {
	count := 0
	for _, item := range items {
		if len(l.items) == l.most {
			break
		}
		l.items = append(l.items, item)
		count++
	}
	return count
}

func (l *line[T]) take(n int) []T {
	var taken []T
	for len(l.items) > 0 && len(taken) < n {
		taken = append(taken, l.items[0])
		l.items = slices.Clone(l.items[1:])
	}
	return taken
}

// heads tries on copies first whether each has an item each time.
func heads[T any](lines ...*line[T]) ([]T, bool) {
	tried := map[*line[T]][]T{}
	for _, l := range lines {
		tried[l] = l.items
	}
	var first []T
	for _, l := range lines {
		if len(tried[l]) == 0 {
			return nil, false
		}
		first = append(first, tried[l][0])
		tried[l] = tried[l][1:]
	}
	for l, left := range tried {
		l.items = slices.Clone(left)
	}
	return first, true
}

// pair is a queue and its line, to which the same is done.
type pair[T comparable] struct {
	t *testing.T
	q *queue.Queue[T]
	l *line[T]
}

func newPair[T comparable](t *testing.T, room int) *pair[T] {
	t.Helper()
	p := &pair[T]{t: t, q: queue.New[T](room), l: newLine[T](room)}
	p.hold()
	return p
}

// hold holds all that a queue tells against its line, twice: telling changes nothing.
func (p *pair[T]) hold() {
	p.t.Helper()
	for range 2 {
		if p.q.Len() != len(p.l.items) || p.q.Room() != p.l.most-len(p.l.items) || p.q.Len()+p.q.Room() != p.l.most {
			p.t.Fatalf("%v of %d: Len %d, Room %d", p.l.items, p.l.most, p.q.Len(), p.q.Room())
		}
		if p.q.Fill.Len() != p.q.Len() || p.q.Fill.Room() != p.q.Room() {
			p.t.Fatalf("%v of %d: the Fill tells %d, %d", p.l.items, p.l.most, p.q.Fill.Len(), p.q.Fill.Room())
		}
		if got := p.q.All(); !slices.Equal(got, p.l.items) {
			p.t.Fatalf("%v of %d: All = %v", p.l.items, p.l.most, got)
		}
		first, want := *new(T), len(p.l.items) > 0
		if want {
			first = p.l.items[0]
		}
		if got, ok := p.q.Peek(); got != first || ok != want {
			p.t.Fatalf("%v of %d: Peek = %v, %v", p.l.items, p.l.most, got, ok)
		}
	}
}

func (p *pair[T]) put(items ...T) int {
	p.t.Helper()
	ahead := slices.Clone(p.l.items)
	got, want := p.q.Put(items...), p.l.put(items...)
	if got != want {
		p.t.Fatalf("%v of %d: Put(%v) = %d, not %d", ahead, p.l.most, items, got, want)
	}
	p.hold()
	return got
}

func (p *pair[T]) take(n int) []T {
	p.t.Helper()
	ahead := slices.Clone(p.l.items)
	got, want := p.q.Take(n), p.l.take(n)
	if !slices.Equal(got, want) {
		p.t.Fatalf("%v of %d: Take(%d) = %v, not %v", ahead, p.l.most, n, got, want)
	}
	p.hold()
	return got
}

// headsOf asks the queues of some pairs, of one several times too, and holds all of them.
func headsOf[T comparable](t *testing.T, pairs ...*pair[T]) ([]T, bool) {
	t.Helper()
	var queues []*queue.Queue[T]
	var lines []*line[T]
	for _, p := range pairs {
		queues, lines = append(queues, p.q), append(lines, p.l)
	}
	got, ok := queue.Heads(queues...)
	want, all := heads(lines...)
	if ok != all || !slices.Equal(got, want) {
		t.Fatalf("Heads = %v, %v, not %v, %v", got, ok, want, all)
	}
	for _, p := range pairs {
		p.hold()
	}
	return got, ok
}

// upTo are the numbers from one on, so many.
func upTo(from, count int) []int {
	var list []int
	for i := range count {
		list = append(list, from+i)
	}
	return list
}
