package flow

import (
	"slices"

	"trommel/api"
	"trommel/queue"
	"trommel/shard"
)

// decided is a call that was taken and isn't answered.
type decided struct {
	outbox  *queue.Queue[api.Answer] // its user's
	answer  api.Answer               // without the numbers of a Match
	changes int                      // how many were appended up to and with its take
}

// canMerge tells whether MoveMerge is ready.
func (w *World) canMerge() bool {
	if !allOf(w.workers, (*worker).hasPiece) {
		return false
	}
	// There is one, for the pieces are of calls that were taken.
	oldest := w.taken[0]
	return oldest.changes <= w.registrar.lasting() && oldest.outbox.Room() > 0
}

// merge answers the oldest call. The pieces of all but a Match that is OK have
// nothing in them.
func (w *World) merge() {
	oldest := w.taken[0]
	w.taken = slices.Delete(w.taken, 0, 1)
	oldest.answer.IDs = shard.Merge(w.heads()...)
	oldest.outbox.Put(oldest.answer)
}

// heads are the first pieces of all shards, taken.
func (w *World) heads() [][]int {
	queues := make([]*queue.Queue[[]int], len(w.workers))
	for i, k := range w.workers {
		queues[i] = k.pieces
	}
	// Each has a piece when the merger moves.
	pieces, _ := queue.Heads(queues...)
	return pieces
}
