package shard_test

import (
	"slices"
	"testing"

	"trommel/api"
	"trommel/conj"
	"trommel/index"
	"trommel/shard"
)

// sheet is a shard as the chapter tells it: what it owns of each subscription.
type sheet struct {
	own, of int
	subs    map[int][]api.Conj
}

func newSheet(own, of int) *sheet { return &sheet{own: own, of: of, subs: map[int][]api.Conj{}} }

// mayBe tells whether a Sub or Replace is done.
func mayBe(task api.Task) bool {
	if task.ID < 1 || task.ID > 1<<40 {
		return false
	}
	for _, c := range task.Conjs {
		if conj.Check(c) != api.OK {
			return false
		}
	}
	return true
}

func (s *sheet) do(task api.Task) []int {
	switch task.Kind {
	case 1, 2: // Sub, Replace
		if !mayBe(task) {
			return nil
		}
		delete(s.subs, task.ID)
		for j, c := range task.Conjs {
			if (task.ID+j)%s.of == s.own {
				s.subs[task.ID] = append(s.subs[task.ID], copied(c))
			}
		}
	case 3: // Unsub
		delete(s.subs, task.ID)
	case 4: // Match
		return s.met(task.Event)
	}
	return nil
}

func (s *sheet) met(event []api.Pair) []int {
	var ids []int
	for id, conjs := range s.subs {
		if slices.ContainsFunc(conjs, func(c api.Conj) bool { return conj.Holds(c, event) }) {
			ids = append(ids, id)
		}
	}
	slices.Sort(ids)
	return ids
}

func (s *sheet) load() int {
	count := 0
	for _, conjs := range s.subs {
		count += len(conjs)
	}
	return count
}

// newShard is one that may be.
func newShard(t *testing.T, own, of int) *shard.Shard {
	t.Helper()
	s, e := shard.New(own, of)
	if e != api.OK || s == nil {
		t.Fatalf("New(%d, %d) = %v, %d", own, of, s, e)
	}
	return s
}

// pair is a shard and its sheet, to which the same is done.
type pair struct {
	t *testing.T
	x *shard.Shard
	s *sheet
}

func newPair(t *testing.T, own, of int) *pair {
	t.Helper()
	p := &pair{t: t, x: newShard(t, own, of), s: newSheet(own, of)}
	p.hold()
	return p
}

// do does tasks at once, holds each answer and the Load, and answers what the shard did.
func (p *pair) do(tasks ...api.Task) [][]int {
	p.t.Helper()
	got := p.x.Do(tasks...)
	if len(got) != len(tasks) {
		p.t.Fatalf("%v: Do of %d tasks answers %v", p.s, len(tasks), got)
	}
	for i, task := range tasks {
		if want := p.s.do(task); !slices.Equal(got[i], want) {
			p.t.Fatalf("%v: Do(%v) = %v, not %v", p.s, task, got[i], want)
		}
	}
	if p.x.Load() != p.s.load() {
		p.t.Fatalf("%v: Load %d", p.s, p.x.Load())
	}
	return got
}

// hold asks with some events, one by one and all at once.
func (p *pair) hold(events ...[]api.Pair) {
	p.t.Helper()
	var tasks []api.Task
	for _, event := range append(events, nil) {
		p.do(match(event...))
		tasks = append(tasks, match(event...))
	}
	p.do(tasks...)
}

// ring is all shards of so many, one shard of one, and an index, to which the
// same is done.
type ring struct {
	t      *testing.T
	shards []*pair
	one    *pair
	x      *index.Index
}

func newRing(t *testing.T, of int) *ring {
	t.Helper()
	r := &ring{t: t, one: newPair(t, 0, 1), x: index.New()}
	for own := range of {
		r.shards = append(r.shards, newPair(t, own, of))
	}
	return r
}

// index does a task to the index, as layer 15 has calls for it.
func (r *ring) index(task api.Task) []int {
	switch task.Kind {
	case api.Sub, api.Replace:
		if task.ID <= api.MaxID {
			r.x.Put(task.ID, task.Conjs...)
		}
	case api.Unsub:
		r.x.Drop(task.ID)
	case api.Match:
		return r.x.Match(task.Event)
	}
	return nil
}

// do gives tasks to all, holds P22.2, and answers the merged answers.
func (r *ring) do(tasks ...api.Task) [][]int {
	r.t.Helper()
	pieces := make([][][]int, len(tasks))
	load := 0
	for _, p := range r.shards {
		for i, piece := range p.do(tasks...) {
			pieces[i] = append(pieces[i], piece)
		}
		load += p.x.Load()
	}
	one := r.one.do(tasks...)
	var merged [][]int
	for i, task := range tasks {
		got := shard.Merge(pieces[i]...)
		if want := r.index(task); !slices.Equal(got, want) || !slices.Equal(got, one[i]) {
			r.t.Fatalf("%d shards, %v: merged %v; one shard of one %v, an index %v", len(r.shards), task, got, one[i], want)
		}
		merged = append(merged, got)
	}
	if load != r.x.Conjs() || load != r.one.x.Load() {
		r.t.Fatalf("%d shards: the Loads sum to %d; of one shard %d, of an index %d", len(r.shards), load, r.one.x.Load(), r.x.Conjs())
	}
	return merged
}

// hold asks with some events.
func (r *ring) hold(events ...[]api.Pair) {
	r.t.Helper()
	for _, event := range append(events, nil) {
		r.do(match(event...))
	}
}

// copied shares no list with c.
func copied(c api.Conj) api.Conj {
	each := func(preds []api.Pred) []api.Pred {
		var own []api.Pred
		for _, p := range preds {
			p.Ints, p.Words = slices.Clone(p.Ints), slices.Clone(p.Words)
			own = append(own, p)
		}
		return own
	}
	return api.Conj{Never: c.Never, Pos: each(c.Pos), Neg: each(c.Neg)}
}
