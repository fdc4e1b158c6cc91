package queue_test

import (
	"math"
	"math/rand/v2"
	"slices"
	"strconv"
	"testing"

	"trommel/api"
	"trommel/queue"
)

// P21.1: the chapter's examples.
func TestExamples(t *testing.T) {
	q := queue.New[int](2)
	if got := q.Put(1, 2, 3); got != 2 || q.Room() != 0 {
		t.Errorf("Put = %d, Room %d", got, q.Room())
	}
	if got, ok := q.Peek(); got != 1 || !ok {
		t.Errorf("Peek = %d, %v", got, ok)
	}
	if got := q.Take(5); !slices.Equal(got, []int{1, 2}) || q.Len() != 0 {
		t.Errorf("Take = %v, Len %d", got, q.Len())
	}
	if queue.New[int](0).Room() != 1 || queue.New[int](99).Room() != 16 {
		t.Error("New(0) hasn't room for one, or New(99) not for 16")
	}
	one, two := queue.New[int](2), queue.New[int](2)
	one.Put(1, 2)
	two.Put(3)
	if got, ok := queue.Heads(one, two); !slices.Equal(got, []int{1, 3}) || !ok {
		t.Errorf("Heads = %v, %v", got, ok)
	}
	if got, ok := queue.Heads(one, two); len(got) != 0 || ok {
		t.Errorf("Heads = %v, %v", got, ok)
	}
	if !slices.Equal(one.All(), []int{2}) || two.Len() != 0 {
		t.Errorf("left are %v, %v", one.All(), two.All())
	}
}

// P21.1: a room below 1 counts as 1, one above MaxQueue as MaxQueue.
func TestNew(t *testing.T) {
	if api.MaxQueue != 16 {
		t.Fatalf("MaxQueue is %d", api.MaxQueue)
	}
	rooms := append([]int{math.MinInt, math.MinInt + 1, -1 << 32, -16, -2, -1, 0}, upTo(1, 18)...)
	for _, room := range append(rooms, 32, 99, 1<<32, 1<<32+3, math.MaxInt-1, math.MaxInt) {
		want := room
		if room < 1 {
			want = 1
		}
		if room > api.MaxQueue {
			want = api.MaxQueue
		}
		p := newPair[int](t, room)
		if p.q.Len() != 0 || p.q.Room() != want {
			t.Errorf("New(%d): Len %d, Room %d", room, p.q.Len(), p.q.Room())
		}
		if got := p.put(upTo(1, 40)...); got != want || p.q.Len() != want || p.q.Room() != 0 {
			t.Errorf("New(%d): Put of 40 = %d", room, got)
		}
		if got := p.take(40); len(got) != want || p.q.Room() != want {
			t.Errorf("New(%d): Take(40) = %v", room, got)
		}
	}
}

// fills are pairs of each room, filled so far, the first item standing at each place that it can have come to.
func fills(t *testing.T, do func(p *pair[int], room, held int)) {
	t.Helper()
	for room := 1; room <= api.MaxQueue; room++ {
		for held := range room + 1 {
			for gone := range room {
				p := newPair[int](t, room)
				for i := range gone {
					p.put(-1 - i)
					p.take(1)
				}
				p.put(upTo(1, held)...)
				do(p, room, held)
			}
		}
	}
}

// P21.1: of what is put the first ones, as many as fit, go in; none, some, all that fit, and more.
func TestPut(t *testing.T) {
	for count := range api.MaxQueue + 3 {
		fills(t, func(p *pair[int], room, held int) {
			want := count
			if want > room-held {
				want = room - held
			}
			if got := p.put(upTo(101, count)...); got != want || p.q.Len() != held+want || p.q.Room() != room-held-want {
				t.Fatalf("%d of %d held: Put of %d = %d", held, room, count, got)
			}
			if got := p.q.All(); !slices.Equal(got, append(upTo(1, held), upTo(101, want)...)) {
				t.Fatalf("%d of %d held, %d put: All = %v", held, room, count, got)
			}
		})
	}
}

// P21.1: a full queue takes nothing in, however often it is asked, and gives what it had.
func TestPutIntoFull(t *testing.T) {
	for room := 1; room <= api.MaxQueue; room++ {
		p := newPair[int](t, room)
		p.put(upTo(1, room)...)
		for count := range 5 {
			if got := p.put(upTo(50, count)...); got != 0 || p.q.Len() != room || p.q.Room() != 0 {
				t.Errorf("Put of %d into a full one = %d", count, got)
			}
		}
		p.take(1)
		if got := p.put(60, 61); got != 1 || p.q.Room() != 0 {
			t.Errorf("Put = %d", got)
		}
		if got := p.take(room); !slices.Equal(got, append(upTo(2, room-1), 60)) {
			t.Errorf("Take = %v", got)
		}
	}
}

// P21.1: n below 1, 1, fewer than there are, just as many, and more.
func TestTake(t *testing.T) {
	for _, n := range append([]int{math.MinInt, math.MinInt + 1, -1 << 32, -2, -1, 0, 17, 99, 1 << 32, 1<<32 + 1, math.MaxInt - 1, math.MaxInt}, upTo(1, api.MaxQueue)...) {
		fills(t, func(p *pair[int], room, held int) {
			want := n
			if n < 1 {
				want = 0
			}
			if n > held {
				want = held
			}
			if got := p.take(n); !slices.Equal(got, upTo(1, want)) || p.q.Len() != held-want || p.q.Room() != room-held+want {
				t.Fatalf("%d of %d held: Take(%d) = %v", held, room, n, got)
			}
			if got := p.q.All(); !slices.Equal(got, upTo(1+want, held-want)) {
				t.Fatalf("%d of %d held, Take(%d): All = %v", held, room, n, got)
			}
		})
	}
}

// P21.1: of an empty queue, a new one or one that was emptied, there is nothing.
func TestEmpty(t *testing.T) {
	for room := 1; room <= api.MaxQueue; room++ {
		p := newPair[int](t, room)
		for round := range 3 {
			for _, n := range []int{math.MinInt, -1, 0, 1, room, math.MaxInt} {
				if got := p.take(n); len(got) != 0 {
					t.Errorf("Take(%d) = %v", n, got)
				}
			}
			if got, ok := p.q.Peek(); got != 0 || ok || len(p.q.All()) != 0 || p.q.Len() != 0 || p.q.Room() != room {
				t.Errorf("Peek = %d, %v; All = %v", got, ok, p.q.All())
			}
			if p.put() != 0 {
				t.Error("Put of nothing puts something")
			}
			p.put(upTo(1, room-round%2)...)
			p.take(room)
		}
	}
}

// P21.1: the zero item is one as any other: Peek says true of it.
func TestZeroItems(t *testing.T) {
	p := newPair[int](t, 3)
	p.put(0, 0)
	if got, ok := p.q.Peek(); got != 0 || !ok || p.q.Len() != 2 {
		t.Errorf("Peek = %d, %v", got, ok)
	}
	if got := p.take(1); !slices.Equal(got, []int{0}) || p.q.Len() != 1 {
		t.Errorf("Take = %v", got)
	}
	if got, ok := headsOf(t, p); !slices.Equal(got, []int{0}) || !ok || p.q.Len() != 0 {
		t.Errorf("Heads = %v, %v", got, ok)
	}
}

// P21.1, P21.2: Peek and All of one item, of a full queue, and behind takes and puts that go round many times.
func TestRoundAndRound(t *testing.T) {
	for room := 1; room <= api.MaxQueue; room++ {
		for step := 1; step <= room; step++ {
			p := newPair[int](t, room)
			in, out := 0, 0
			for range 5*room + 3 {
				in += p.put(upTo(in, step)...)
				if got, ok := p.q.Peek(); got != out || !ok {
					t.Fatalf("Peek = %d, %v, not %d", got, ok, out)
				}
				in += p.put(upTo(in, room)...)
				if p.q.Room() != 0 || !slices.Equal(p.q.All(), upTo(out, room)) {
					t.Fatalf("All of a full one = %v, from %d on", p.q.All(), out)
				}
				out += len(p.take(room - 1))
				if got, ok := p.q.Peek(); got != in-1 || !ok || !slices.Equal(p.q.All(), []int{in - 1}) {
					t.Fatalf("of one item Peek = %d, %v, All = %v", got, ok, p.q.All())
				}
				in += p.put(upTo(in, step-1)...)
				out += len(p.take(step))
			}
		}
	}
}

// P21.2: what is taken is what was put, in the same order, each once; by Take and by Heads.
func TestFirstInFirstOut(t *testing.T) {
	chance := rand.New(rand.NewPCG(21, 1))
	for room := 1; room <= api.MaxQueue; room++ {
		q := queue.New[int](room)
		var put, taken []int
		for range 2000 {
			switch chance.IntN(5) {
			case 0, 1:
				items := upTo(len(put), chance.IntN(room+2))
				put = append(put, items[:q.Put(items...)]...)
			case 2, 3:
				taken = append(taken, q.Take(chance.IntN(room+2)-1)...)
			case 4:
				first, _ := queue.Heads(q)
				taken = append(taken, first...)
			}
			if !slices.Equal(append(slices.Clone(taken), q.All()...), put) || q.Len()+q.Room() != room || q.Len() != len(put)-len(taken) {
				t.Fatalf("room %d: put %v, taken %v, left %v", room, put, taken, q.All())
			}
		}
		if len(taken) < 200 {
			t.Errorf("room %d: only %d were taken: too few to tell much", room, len(taken))
		}
	}
}

// P21.1, P21.2: all rows of five calls among some, held behind each.
func TestAllRows(t *testing.T) {
	next := 0
	fresh := func(count int) []int { next += count; return upTo(next-count, count) }
	calls := []func(p *pair[int]){
		func(p *pair[int]) { p.put(fresh(0)...) }, func(p *pair[int]) { p.put(fresh(1)...) }, func(p *pair[int]) { p.put(fresh(2)...) }, func(p *pair[int]) { p.put(fresh(4)...) },
		func(p *pair[int]) { p.take(0) }, func(p *pair[int]) { p.take(1) }, func(p *pair[int]) { p.take(2) }, func(p *pair[int]) { p.take(9) }, func(p *pair[int]) { headsOf(p.t, p) }, func(p *pair[int]) { headsOf(p.t, p, p) },
	}
	const length = 5
	count := 1
	for range length {
		count *= len(calls)
	}
	for room := range 4 {
		for row := range count {
			p := newPair[int](t, room+1)
			for range length {
				calls[row%len(calls)](p)
				row /= len(calls)
			}
		}
	}
}

// thing is an item of several fields.
type thing struct {
	name string
	no   int
	at   [2]bool
}

// rowsOf does long rows by chance with several queues at once: each call leaves the others as they were.
func rowsOf[T comparable](t *testing.T, seed uint64, item func(n int) T) {
	t.Helper()
	chance := rand.New(rand.NewPCG(21, seed))
	next, all, none := 0, 0, 0
	for range 60 {
		pairs := []*pair[T]{}
		for range 1 + chance.IntN(5) {
			pairs = append(pairs, newPair[T](t, chance.IntN(api.MaxQueue+4)-1))
		}
		for range 60 {
			p := pairs[chance.IntN(len(pairs))]
			switch chance.IntN(4) {
			case 0, 1:
				var items []T
				for range chance.IntN(p.l.most + 3) {
					next++
					items = append(items, item(next))
				}
				p.put(items...)
			case 2:
				p.take(chance.IntN(p.l.most+4) - 2)
			case 3:
				var some []*pair[T]
				for range chance.IntN(4) {
					some = append(some, pairs[chance.IntN(len(pairs))])
				}
				if _, ok := headsOf(t, some...); ok {
					all++
				} else {
					none++
				}
			}
			for _, other := range pairs {
				other.hold()
			}
		}
	}
	if all < 100 || none < 100 {
		t.Errorf("Heads was true %d times, false %d times: too few to tell much", all, none)
	}
}

// P21.1, P21.2: queues of numbers, of texts, of structs, of pointers and of anything.
func TestRowsByChance(t *testing.T) {
	rowsOf(t, 2, func(n int) int { return n - 500 })
	rowsOf(t, 3, func(n int) string { return strconv.Itoa(n % 90) })
	rowsOf(t, 4, func(n int) thing { return thing{name: strconv.Itoa(n), no: -n, at: [2]bool{n%2 == 0, n%3 == 0}} })
	rowsOf(t, 5, func(n int) *thing { return &thing{no: n} })
	rowsOf(t, 6, func(n int) any { return []any{n, "x", nil, thing{no: n}, 1.5}[n%5] })
	rowsOf(t, 7, func(n int) api.Move { return api.Move{Kind: n % 7, Who: n} })
	rowsOf(t, 8, func(n int) bool { return n%3 == 0 })
	rowsOf(t, 9, func(n int) struct{} { return struct{}{} })
	rowsOf(t, 10, func(n int) [100]int { return [100]int{n, 99: n} })
}

// P21.1: an item is kept and handed out as the value that it is: a list shares what it shared.
func TestItemsAsTheyAre(t *testing.T) {
	list, table := []int{1, 2, 3}, map[string]int{"x": 1}
	lists, tables := queue.New[[]int](3), queue.New[map[string]int](2)
	lists.Put(list, nil, list[:1])
	tables.Put(table, nil)
	list[0], table["x"] = 9, 9
	if first, ok := lists.Peek(); !ok || len(first) != 3 || &first[0] != &list[0] || cap(first) != cap(list) {
		t.Errorf("Peek = %v, %v", first, ok)
	}
	if all := lists.All(); len(all) != 3 || &all[0][0] != &list[0] || all[1] != nil || len(all[2]) != 1 || cap(all[2]) != 3 || &all[2][0] != &list[0] {
		t.Errorf("All = %v", all)
	}
	if got, ok := queue.Heads(lists); !ok || len(got) != 1 || &got[0][0] != &list[0] {
		t.Errorf("Heads = %v, %v", got, ok)
	}
	if got := lists.Take(2); len(got) != 2 || got[0] != nil || &got[1][0] != &list[0] {
		t.Errorf("Take = %v", got)
	}
	if got := tables.Take(2); len(got) != 2 || got[0]["x"] != 9 || got[1] != nil {
		t.Errorf("Take = %v", got)
	}
	calls := queue.New[func() int](2)
	calls.Put(func() int { return 7 }, nil)
	if got := calls.Take(2); got[0]() != 7 || got[1] != nil {
		t.Error("functions aren't what they were")
	}
	within := queue.New[*queue.Queue[int]](1)
	inner := queue.New[int](1)
	within.Put(inner)
	if got, ok := within.Peek(); got != inner || !ok {
		t.Error("a queue isn't what it was")
	}
}

// P21.1, rule 6: queues have nothing to do with one another.
func TestSideBySide(t *testing.T) {
	if queue.New[int](1) == queue.New[int](1) {
		t.Fatal("two queues are one")
	}
	var pairs []*pair[int]
	for room := 1; room <= api.MaxQueue; room++ {
		pairs = append(pairs, newPair[int](t, room), newPair[int](t, room))
	}
	hold := func() {
		t.Helper()
		for _, p := range pairs {
			p.hold()
		}
	}
	for i, p := range pairs {
		p.put(upTo(100*i, 1+i%5)...)
		hold()
	}
	for i, p := range pairs {
		p.take(1 + i%3)
		hold()
		p.put(upTo(100*i+50, 20)...)
		hold()
	}
	for i := range pairs {
		headsOf(t, pairs[i], pairs[len(pairs)-1-i])
		hold()
	}
	pairs[4].take(99)
	hold()
}
