package part_test

import (
	"slices"
	"testing"

	"trommel/api"
	"trommel/conj"
	"trommel/key"
	"trommel/part"
	"trommel/value"
)

// entry is a conjunction under its number, and the keys of what must hold and what must not.
type entry struct {
	id       int
	c        api.Conj
	dead     bool
	pos, neg []api.Key
}

// in tells whether it is in a partition: a live one that isn't Never.
func (e entry) in(part int) bool { return !e.dead && !e.c.Never && len(e.c.Pos) == part }

// shelf is a part as the chapter tells it: the conjunctions in the order in
// which they came.
type shelf struct {
	entries []entry
}

func (s *shelf) find(id int) int {
	return slices.IndexFunc(s.entries, func(e entry) bool { return e.id == id })
}

func (s *shelf) add(id int, c api.Conj) api.Errno {
	if id < 1 {
		return api.ErrRange
	}
	if conj.Check(c) != api.OK || s.find(id) >= 0 {
		return api.ErrForm
	}
	s.entries = append(s.entries, entry{id: id, c: copied(c), pos: keysOf(c.Pos), neg: keysOf(c.Neg)})
	return api.OK
}

func (s *shelf) drop(ids ...int) int {
	count := 0
	for _, id := range ids {
		if i := s.find(id); i >= 0 && !s.entries[i].dead {
			s.entries[i].dead = true
			count++
		}
	}
	return count
}

func (s *shelf) compact() int {
	before := len(s.entries)
	s.entries = slices.DeleteFunc(s.entries, func(e entry) bool { return e.dead })
	return before - len(s.entries)
}

func (s *shelf) dead() int {
	count := 0
	for _, e := range s.entries {
		if e.dead {
			count++
		}
	}
	return count
}

func (s *shelf) partition(id int) int {
	i := s.find(id)
	if i < 0 || s.entries[i].dead || s.entries[i].c.Never {
		return -1
	}
	return len(s.entries[i].c.Pos)
}

func keysOf(preds []api.Pred) []api.Key {
	var keys []api.Key
	for _, p := range preds {
		keys = append(keys, key.Of(p)...)
	}
	return keys
}

// rising are the entries by their numbers.
func (s *shelf) rising() []entry {
	sorted := slices.Clone(s.entries)
	slices.SortFunc(sorted, func(a, b entry) int {
		if a.id < b.id {
			return -1
		}
		return 1
	})
	return sorted
}

func (s *shelf) posts(part int, k api.Key) []api.Post {
	var posts []api.Post
	for _, e := range s.rising() {
		if !e.in(part) {
			continue
		}
		if slices.Contains(e.neg, k) {
			posts = append(posts, out(e.id))
		}
		if slices.Contains(e.pos, k) || part == 0 && k == zeroKey {
			posts = append(posts, in(e.id))
		}
	}
	return posts
}

func (s *shelf) match(event []api.Pair) []int {
	var ids []int
	for _, e := range s.rising() {
		if !e.dead && conj.Holds(e.c, event) {
			ids = append(ids, e.id)
		}
	}
	return ids
}

// names is how many unlike names an event has whose first pair's value is in form.
func names(event []api.Pair) int {
	var seen []string
	count := 0
	for _, p := range event {
		if slices.Contains(seen, p.Name) {
			continue
		}
		seen = append(seen, p.Name)
		if value.Check(p.Value) == api.OK {
			count++
		}
	}
	return count
}

func (s *shelf) trace(event []api.Pair) api.Trace {
	var t api.Trace
	met := map[int]int{} // in how many opened lists of its partition a conjunction stands
	for part := range names(event) + 1 {
		keys := key.Event(event)
		if part == 0 {
			keys = append(keys, zeroKey)
		}
		slices.SortFunc(keys, key.Compare)
		for _, k := range keys {
			posts := s.posts(part, k)
			if len(posts) == 0 {
				continue
			}
			t.Lists = append(t.Lists, api.Opened{Part: part, Key: k, Posts: len(posts)})
			for i, p := range posts {
				if i == 0 || posts[i-1].ID != p.ID {
					met[p.ID]++
				}
			}
		}
	}
	for _, e := range s.rising() {
		if met[e.id] > 0 && met[e.id] >= len(e.c.Pos) {
			t.Judged = append(t.Judged, e.id)
		}
	}
	return t
}

// keys are all under which a conjunction may stand, live or dead, and some under which none does.
func (s *shelf) keys() []api.Key {
	keys := []api.Key{zeroKey, {}, {Kind: api.KeyZero, Attr: "a"}, {Kind: 9, Attr: "a"}, {Kind: api.KeyInt, Int: 5}, {Kind: api.KeyInt, Attr: "a", Int: 5, Word: "x"}, intKey("nobody", 5)}
	for _, e := range s.entries {
		keys = append(append(keys, e.pos...), e.neg...)
	}
	slices.SortFunc(keys, key.Compare)
	return slices.Compact(keys)
}

func sameTrace(a, b api.Trace) bool {
	return slices.Equal(a.Lists, b.Lists) && slices.Equal(a.Judged, b.Judged)
}

// holdSizes holds what a part tells of its conjunctions against the shelf.
func holdSizes(t *testing.T, p *part.Part, s *shelf, others ...int) {
	t.Helper()
	dead := s.dead()
	if p.Live() != len(s.entries)-dead || p.Dead() != dead || p.Sizes.Live() != p.Live() || p.Sizes.Dead() != dead {
		t.Fatalf("%v: Live %d, Dead %d; of the Sizes %d, %d", s, p.Live(), p.Dead(), p.Sizes.Live(), p.Sizes.Dead())
	}
	ids := append([]int{-1, 0, 1}, others...)
	for _, e := range s.entries {
		ids = append(ids, e.id, e.id+1)
	}
	for _, id := range ids {
		if got := p.Partition(id); got != s.partition(id) {
			t.Fatalf("%v: Partition(%d) = %d", s, id, got)
		}
	}
}

// holdPosts holds all lists against the shelf.
func holdPosts(t *testing.T, p *part.Part, s *shelf) {
	t.Helper()
	for part := -1; part <= 4; part++ {
		for _, k := range s.keys() {
			if got, want := p.Posts(part, k), s.posts(part, k); !slices.Equal(got, want) {
				t.Fatalf("%v: Posts(%d, %v) = %v, not %v", s, part, k, got, want)
			}
		}
	}
}

// holdEvent holds what an event is answered against the shelf, and against P14.2 and P14.4.
func holdEvent(t *testing.T, p *part.Part, s *shelf, event []api.Pair) {
	t.Helper()
	ids, trace := p.Match(event), p.Trace(event)
	if want := s.match(event); !slices.Equal(ids, want) {
		t.Fatalf("%v: Match(%v) = %v, not %v", s, event, ids, want)
	}
	if want := s.trace(event); !sameTrace(trace, want) {
		t.Fatalf("%v: Trace(%v) = %v, not %v", s, event, trace, want)
	}
	yielded := key.Event(event)
	for i, o := range trace.Lists {
		if o.Part > names(event) || !slices.Contains(yielded, o.Key) && (o.Key != zeroKey || o.Part != 0) || o.Posts < 1 {
			t.Fatalf("%v: Trace(%v) opens %v", s, event, o)
		}
		if i > 0 && (trace.Lists[i-1].Part > o.Part || trace.Lists[i-1].Part == o.Part && key.Compare(trace.Lists[i-1].Key, o.Key) >= 0) {
			t.Fatalf("%v: Trace(%v) = %v isn't in order", s, event, trace.Lists)
		}
	}
	for _, id := range ids {
		if !slices.Contains(trace.Judged, id) {
			t.Fatalf("%v: %d matches %v and isn't judged", s, id, event)
		}
	}
	for _, id := range trace.Judged {
		own, lists, ins, outs := p.Partition(id), 0, 0, 0
		for _, o := range trace.Lists {
			if o.Part != own {
				continue
			}
			posts := p.Posts(own, o.Key)
			isIn, isOut := slices.Contains(posts, in(id)), slices.Contains(posts, out(id))
			if isIn || isOut {
				lists++
			}
			if isIn {
				ins++
			}
			if isOut {
				outs++
			}
		}
		holds := outs == 0 && (own == 0 || ins == own)
		if lists < max(own, 1) || holds != slices.Contains(ids, id) {
			t.Fatalf("%v: %d of partition %d is judged for %v: it stands in %d lists, %d posts in, %d out; matched: %v", s, id, own, event, lists, ins, outs, ids)
		}
	}
}

// holdZero holds the zero list to P14.3.
func holdZero(t *testing.T, p *part.Part, s *shelf) {
	t.Helper()
	var want []api.Post
	for _, e := range s.rising() {
		if !e.dead && !e.c.Never && conj.Count(e.c) == 0 {
			want = append(want, in(e.id))
		}
	}
	if got := p.Posts(0, key.Zero()); !slices.Equal(got, want) {
		t.Fatalf("%v: the zero list has %v, not %v", s, got, want)
	}
}

// hold holds all that a part tells against its shelf.
func hold(t *testing.T, p *part.Part, s *shelf, events ...[]api.Pair) {
	t.Helper()
	holdSizes(t, p, s)
	holdPosts(t, p, s)
	holdZero(t, p, s)
	for _, event := range append(events, nil) {
		holdEvent(t, p, s, event)
	}
}

// pair is a part and its shelf, to which the same is done.
type pair struct {
	t *testing.T
	p *part.Part
	s *shelf
}

func newPair(t *testing.T) *pair { return &pair{t: t, p: part.New(), s: &shelf{}} }

func (x *pair) add(id int, c api.Conj) api.Errno {
	x.t.Helper()
	got, want := x.p.Add(id, c), x.s.add(id, c)
	if got != want {
		x.t.Fatalf("%v: Add(%d, %v) = %d, not %d", x.s, id, c, got, want)
	}
	return got
}

func (x *pair) drop(ids ...int) int {
	x.t.Helper()
	got, want := x.p.Drop(ids...), x.s.drop(ids...)
	if got != want {
		x.t.Fatalf("%v: Drop(%v) = %d, not %d", x.s, ids, got, want)
	}
	return got
}

func (x *pair) compact() int {
	x.t.Helper()
	got, want := x.p.Compact(), x.s.compact()
	if got != want {
		x.t.Fatalf("%v: Compact = %d, not %d", x.s, got, want)
	}
	return got
}

func (x *pair) hold(events ...[]api.Pair) {
	x.t.Helper()
	hold(x.t, x.p, x.s, events...)
}

// copied shares no list with c.
func copied(c api.Conj) api.Conj {
	each := func(preds []api.Pred) []api.Pred {
		var own []api.Pred
		for _, p := range preds {
			p.Ints, p.Words = slices.Clone(p.Ints), slices.Clone(p.Words)
			own = append(own, p)
		}
		return own
	}
	return api.Conj{Never: c.Never, Pos: each(c.Pos), Neg: each(c.Neg)}
}
