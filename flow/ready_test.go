package flow_test

import (
	"slices"
	"testing"

	"trommel/api"
)

func send(who int) api.Move    { return move(api.MoveSend, who) }
func receive(who int) api.Move { return move(api.MoveReceive, who) }
func take(who int) api.Move    { return move(api.MoveTake, who) }
func work(who int) api.Move    { return move(api.MoveShard, who) }

var (
	syncs  = move(api.MoveSync, 0)
	merges = move(api.MoveMerge, 0)
)

// matches are so many calls that need no Sync.
func matches(count int) []api.Call { return slices.Repeat([]api.Call{match()}, count) }

// The chapter's first example.
func TestExampleMoves(t *testing.T) {
	p := begun(t, config(most, 2, 1, 1, 2))
	p.submit(0, sub("a {1}"), sub("a {2}"))
	p.ready(send(0))
	p.step(0)
	p.ready(take(0))
	p.step(0)
	p.ready(syncs, work(0), work(1))
	p.runs(3, 0, 0, 0)
	p.ready(merges)
	p.step(0)
	p.ready(receive(0))
	p.step(0)
	p.ready(send(0))
	if p.drain() != 7 {
		t.Error("the other one takes 7 steps too")
	}
}

// P23.1, MoveSend: an unsent call is needed.
func TestSendNeedsCall(t *testing.T) {
	p := begun(t, config(most, 1, 3, 3, 3))
	p.ready()
	p.submit(1)
	p.ready()
	p.submit(1, match(), match())
	p.ready(send(1))
	p.moves(send(1))
	p.ready(send(1), take(1))
	p.moves(send(1))
	p.ready(take(1))
	p.submit(1, match())
	p.ready(send(1), take(1))
}

// P23.1, MoveSend: fewer than Window calls are open, until answers are received.
func TestSendNeedsWindow(t *testing.T) {
	for window := 1; window <= api.MaxWindow; window++ {
		p := begun(t, config(most, 2, api.MaxQueue, window, 2))
		p.submit(0, matches(window+3)...)
		p.submit(1, match())
		for range window {
			p.can(true, api.MoveSend, 0)
			p.moves(send(0))
		}
		// The inbox has room, but for the greatest window: taking makes some.
		p.can(false, api.MoveSend, 0)
		p.can(true, api.MoveSend, 1)
		p.moves(take(0))
		p.can(false, api.MoveSend, 0)
		p.moves(work(1), work(0))
		p.can(false, api.MoveSend, 0)
		p.moves(merges)
		p.can(false, api.MoveSend, 0)
		p.moves(receive(0))
		p.can(true, api.MoveSend, 0)
		p.moves(send(0))
		p.can(false, api.MoveSend, 0)
	}
}

// P23.1, MoveSend: the inbox has room, though the window lets more calls go.
func TestSendNeedsInbox(t *testing.T) {
	for room := 1; room < api.MaxQueue; room++ {
		p := begun(t, config(most, 1, room, api.MaxWindow, 2))
		p.submit(0, matches(room+3)...)
		p.submit(1, match())
		for range room {
			p.can(true, api.MoveSend, 0)
			p.moves(send(0))
		}
		p.can(false, api.MoveSend, 0)
		// Each user has an inbox of its own.
		p.moves(send(1), take(1))
		p.can(false, api.MoveSend, 0)
		p.moves(work(0), take(0))
		p.can(true, api.MoveSend, 0)
		p.moves(send(0))
		p.can(false, api.MoveSend, 0)
	}
}

// P23.1, MoveReceive: the outbox has an answer; others' answers don't count.
func TestReceiveNeedsAnswer(t *testing.T) {
	p := begun(t, config(most, 2, 2, 2, 2))
	p.submit(0, match(), match())
	p.submit(1, match())
	p.moves(send(0), send(1), take(1), work(0), work(1))
	p.can(false, api.MoveReceive, 0)
	p.can(false, api.MoveReceive, 1)
	p.moves(merges)
	p.can(false, api.MoveReceive, 0)
	p.can(true, api.MoveReceive, 1)
	p.moves(take(0), work(0), work(1), merges, send(0), take(0), work(1), work(0), merges)
	p.ready(receive(0), receive(1))
	p.moves(receive(0))
	p.ready(receive(0), receive(1))
	p.moves(receive(0))
	p.ready(receive(1))
	p.moves(receive(1))
	p.ready()
}

// P23.1, MoveTake: the inbox has a call.
func TestTakeNeedsCall(t *testing.T) {
	p := begun(t, config(most, 1, 2, 2, 2))
	p.submit(1, match(), match())
	p.can(false, api.MoveTake, 1)
	p.moves(send(1))
	p.can(true, api.MoveTake, 1)
	p.can(false, api.MoveTake, 0)
	p.moves(take(1))
	p.can(false, api.MoveTake, 1)
	p.moves(send(1))
	p.can(true, api.MoveTake, 1)
}

// P23.1, MoveTake: each shard's queue of tasks has room; each one that is full hinders it, of every user.
func TestTakeNeedsTasksRoom(t *testing.T) {
	for shards := 1; shards <= api.MaxShards; shards++ {
		for _, room := range []int{1, 2, 5, 15, 16} {
			for last := range shards {
				p := begun(t, config(most, shards, room, api.MaxWindow, 3))
				p.submit(0, matches(16)...)
				p.submit(2, matches(16)...)
				p.moves(send(2))
				for range room {
					p.can(true, api.MoveTake, 2)
					p.moves(send(0), take(0))
				}
				p.can(false, api.MoveTake, 2)
				if room < 16 {
					p.moves(send(0))
				}
				for who := range shards {
					if who != last {
						p.moves(work(who))
						p.can(false, api.MoveTake, 0)
						p.can(false, api.MoveTake, 2)
					}
				}
				p.moves(work(last))
				p.can(room < 16, api.MoveTake, 0)
				p.can(false, api.MoveTake, 1)
				p.moves(take(2))
				p.can(false, api.MoveTake, 0)
				p.drain()
			}
		}
	}
}

// P23.1, MoveSync: something is pending. Matches and refused calls leave nothing behind; Tidy does what a Sync does.
func TestSyncNeedsPending(t *testing.T) {
	p := begun(t, config(most, 2, 16, 16, 1))
	p.submit(0, match(), sub("a {"), unsub(1), api.Call{}, match(number("z", 1)), sub("a {1}"), match(), replace(1, "a {2}"), replace(2, "a {2}"), unsub(1), unsub(1))
	for range 11 {
		p.moves(send(0))
	}
	for range 5 {
		p.moves(take(0))
		p.can(false, api.MoveSync, 0)
	}
	pending := func() {
		t.Helper()
		p.moves(take(0))
		p.can(true, api.MoveSync, 0)
		p.moves(syncs)
		p.can(false, api.MoveSync, 0)
	}
	pending() // Sub
	p.moves(take(0))
	p.can(false, api.MoveSync, 0)
	p.moves(take(0)) // Replace
	p.can(true, api.MoveSync, 0)
	p.moves(take(0))
	p.can(true, api.MoveSync, 0)
	p.tidies(api.OK)
	p.can(false, api.MoveSync, 0)
	pending() // Unsub
	p.moves(take(0))
	p.can(false, api.MoveSync, 0)
	p.drain()
	p.can(false, api.MoveSync, 0)
}

// P23.1: one Sync does for all changes that are pending.
func TestSyncOfMany(t *testing.T) {
	p := begun(t, config(most, 1, 16, 16, 1))
	p.submit(0, slices.Repeat([]api.Call{sub("a {1}")}, 16)...)
	for range 16 {
		p.moves(send(0), take(0))
	}
	acts := p.d.Acts()
	p.moves(syncs)
	p.took(acts, 1)
	p.can(false, api.MoveSync, 0)
	for range 16 {
		p.moves(work(0), merges)
	}
	p.took(acts, 1)
}

// P23.1, MoveShard: a task is needed, and room for its piece.
func TestShardNeedsTaskAndRoom(t *testing.T) {
	for shards := 2; shards <= api.MaxShards; shards++ {
		for _, room := range []int{1, 2, 15, 16} {
			p := begun(t, config(most, shards, room, api.MaxWindow, 3))
			for who := range 3 {
				p.submit(who, matches(16)...)
			}
			for who := range shards {
				p.can(false, api.MoveShard, who)
			}
			// The first shard does as much as it can; the others none, or all but the last piece.
			for i := range room {
				p.can(false, api.MoveShard, 0)
				p.moves(send(0), take(0))
				for who := range shards {
					p.can(true, api.MoveShard, who)
				}
				p.moves(work(0))
				p.can(false, api.MoveShard, 0)
				for who := 1; who < shards; who++ {
					p.can(true, api.MoveShard, who)
					if i > 0 {
						p.moves(work(who))
					}
				}
			}
			p.moves(send(1))
			for who := 1; who < shards; who++ {
				p.can(true, api.MoveShard, who)
				p.moves(work(who))
				p.can(false, api.MoveShard, who)
			}
			// All pieces are there, and the queues full: a task waits till a piece is merged.
			p.moves(take(1))
			for who := range shards {
				p.can(false, api.MoveShard, who)
			}
			p.moves(merges)
			for who := range shards {
				p.can(true, api.MoveShard, who)
			}
			p.drain()
		}
	}
}

// P23.1, MoveMerge: each shard has a piece; each one that has none hinders it.
func TestMergeNeedsPieces(t *testing.T) {
	for shards := 1; shards <= api.MaxShards; shards++ {
		for last := range shards {
			p := begun(t, config(most, shards, 2, 4, 1))
			p.submit(0, matches(3)...)
			p.can(false, api.MoveMerge, 0)
			p.moves(send(0), take(0), send(0), take(0))
			for who := range shards {
				if who != last {
					p.can(false, api.MoveMerge, 0)
					p.moves(work(who), work(who))
				}
			}
			p.can(false, api.MoveMerge, 0)
			p.moves(work(last))
			p.can(true, api.MoveMerge, 0)
			p.moves(merges)
			p.can(false, api.MoveMerge, 0)
			p.moves(work(last))
			p.can(true, api.MoveMerge, 0)
			p.moves(merges)
			p.can(false, api.MoveMerge, 0)
		}
	}
}

// P23.1, MoveMerge: the changes up to the oldest call, its own too, were synced, or written by Tidy; later ones don't count.
func TestMergeNeedsSync(t *testing.T) {
	for _, call := range []api.Call{sub("a {1}"), replace(1, "a {2}"), unsub(1)} {
		for _, tidy := range []bool{false, true} {
			p := begun(t, config(most, 2, 4, 8, 2))
			p.answers(0, []api.Call{sub("b {1}")}, given(1))
			p.submit(0, match(), call, match())
			for range 3 {
				p.moves(send(0))
			}
			// A Match ahead of the change needs no Sync, though the change is appended already.
			p.moves(take(0), take(0), work(0), work(1), work(0), work(1))
			p.can(true, api.MoveSync, 0)
			p.can(true, api.MoveMerge, 0)
			p.moves(merges)
			p.can(false, api.MoveMerge, 0)
			// A Match behind it waits with it.
			p.moves(take(0), work(0), work(1))
			p.can(false, api.MoveMerge, 0)
			if tidy {
				p.tidies(api.OK)
			} else {
				p.moves(syncs)
			}
			p.can(true, api.MoveMerge, 0)
			// A change that is taken now doesn't hinder those ahead of it.
			p.submit(1, sub("a {9}"))
			p.moves(send(1), take(1), work(0), work(1))
			p.can(true, api.MoveSync, 0)
			p.moves(merges)
			p.can(true, api.MoveMerge, 0)
			p.moves(merges)
			p.can(false, api.MoveMerge, 0)
			p.moves(syncs, merges, receive(1))
			p.drain()
		}
	}
}

// P23.1: a refused call behind a change that isn't synced waits as well; one that is ahead of it, or alone, doesn't.
func TestMergeOfRefused(t *testing.T) {
	for _, call := range []api.Call{sub("a {"), unsub(9), {}, match(number("z", 1)), replace(9, "a {1}")} {
		p := begun(t, config(most, 1, 4, 4, 2))
		p.submit(0, call, sub("a {1}"), call)
		p.moves(send(0), send(0), send(0), take(0), take(0), take(0), work(0), work(0), work(0))
		p.ready(syncs, merges)
		p.moves(merges)
		p.ready(receive(0), syncs)
		p.moves(syncs)
		p.ready(receive(0), merges)
		p.moves(merges, merges)
		p.ready(receive(0))
		p.drain()
	}
}

// P23.1: an outbox that has as many answers as the window lets calls be open hinders its user alone; the oldest call always finds room.
func TestOutboxFull(t *testing.T) {
	for window := 1; window <= api.MaxWindow; window++ {
		p := begun(t, config(most, 2, api.MaxQueue, window, 2))
		p.submit(0, matches(window+2)...)
		for range window {
			p.moves(send(0), take(0), work(0), work(1), merges)
			p.can(true, api.MoveReceive, 0)
		}
		p.ready(receive(0))
		p.submit(1, match())
		p.moves(send(1), take(1), work(1), work(0), merges)
		p.ready(receive(0), receive(1))
		p.moves(receive(0))
		if window > 1 {
			p.ready(send(0), receive(0), receive(1))
		} else {
			p.ready(send(0), receive(1))
		}
		p.moves(send(0))
		p.can(false, api.MoveSend, 0)
		p.drain()
	}
}

// P23.1: the order of the list, with moves of all six kinds, of several users and shards.
func TestReadyOrder(t *testing.T) {
	p := begun(t, config(most, 3, 4, 3, 4))
	for who := range 4 {
		p.submit(who, sub("a {1}"), sub("a {1}"), sub("a {1}"), match())
	}
	p.ready(send(0), send(1), send(2), send(3))
	// The users 3 and 1 have an answer to receive each, 2 has a call that only waits for the merger, 1 one that isn't synced.
	p.moves(send(3), send(1), take(1), take(3), work(0), work(0), work(1), work(1), work(2), work(2), syncs, merges, merges)
	p.ready(send(0), send(1), send(2), send(3), receive(1), receive(3))
	p.moves(send(2), send(0), take(2), work(1), work(0), work(2), syncs, send(1), take(1), send(3))
	p.ready(send(0), send(1), send(2), send(3), receive(1), receive(3), take(0), take(3), syncs, work(0), work(1), work(2), merges)
	p.moves(send(1), send(3), work(1))
	p.ready(send(0), send(2), receive(1), receive(3), take(0), take(1), take(3), syncs, work(0), work(2), merges)
	p.drain()
}
