package flow

import (
	"trommel/api"
	"trommel/queue"
	"trommel/shard"
)

// worker is a shard with what it is to do and what it has answered.
type worker struct {
	*shard.Shard
	tasks  *queue.Queue[api.Task]
	pieces *queue.Queue[[]int]
}

// newWorker is one whose shard has done tasks already.
func newWorker(own int, c api.Config, done []api.Task) *worker {
	// There is such a shard of so many: there is no error to ask for.
	s, _ := shard.New(own, c.Shards)
	s.Do(done...)
	return &worker{s, queue.New[api.Task](c.Queue), queue.New[[]int](c.Queue)}
}

// canWork tells whether MoveShard is ready.
func (k *worker) canWork() bool { return k.tasks.Len() > 0 && k.pieces.Room() > 0 }

// work does the first task.
func (k *worker) work() { k.pieces.Put(k.Do(k.tasks.Take(1)...)...) }

// hasRoom tells whether a task fits.
func (k *worker) hasRoom() bool { return k.tasks.Room() > 0 }

// hasPiece tells whether a task was answered.
func (k *worker) hasPiece() bool { return k.pieces.Len() > 0 }

// allOf tells whether something is so of each of the workers.
func allOf(workers []*worker, so func(*worker) bool) bool {
	for _, k := range workers {
		if !so(k) {
			return false
		}
	}
	return true
}
