package live

import (
	"sync"

	"trommel/api"
	"trommel/shard"
)

// team is shards and a merger, each a goroutine.
type team struct {
	workers []worker
	running sync.WaitGroup
	merged  [][]int // the merger's alone till all goroutines have ended
}

// worker is how a shard is told what to do, and how it tells what came of it.
type worker struct {
	tasks  chan api.Task
	pieces chan []int
}

// begin sets so many shards going, each with room for so many tasks and pieces,
// and with what is known from the beginning.
func begin(shards, room int, known ...api.Task) *team {
	t := &team{workers: make([]worker, shards)}
	t.running.Add(shards + 1)
	for own := range t.workers {
		// There is such a shard of so many: there is no error to ask for.
		s, _ := shard.New(own, shards)
		w := worker{make(chan api.Task, room), make(chan []int, room)}
		t.workers[own] = w
		go func() {
			defer t.running.Done()
			s.Do(known...)
			w.work(s)
		}()
	}
	go func() {
		defer t.running.Done()
		t.merge()
	}()
	return t
}

// tell gives each shard a task. It may have to wait for room, but not for ever:
// the merger takes the pieces of all that was told ahead.
func (t *team) tell(task api.Task) {
	for _, w := range t.workers {
		w.tasks <- task
	}
}

// end tells that there are no further tasks; what came of them all, task by
// task, when the last goroutine has ended.
func (t *team) end() [][]int {
	for _, w := range t.workers {
		close(w.tasks)
	}
	t.running.Wait()
	return t.merged
}

// work has a shard do tasks till there are no more.
func (w worker) work(s *shard.Shard) {
	for task := range w.tasks {
		w.pieces <- s.Do(task)[0]
	}
	close(w.pieces)
}

// merge brings the pieces of each task together. All shards send as many: when
// the first one has no more, none has.
func (t *team) merge() {
	for first := range t.workers[0].pieces {
		pieces := [][]int{first}
		for _, w := range t.workers[1:] {
			pieces = append(pieces, <-w.pieces)
		}
		t.merged = append(t.merged, shard.Merge(pieces...))
	}
}
