package flow

import "trommel/api"

// chance is a move that is ready, and how it is done.
type chance struct {
	api.Move
	do func()
}

// chances are the moves that are ready, in the order in which Ready tells them.
func (w *World) chances() []chance {
	if w.Down() {
		return nil
	}
	var list []chance
	offer := func(kind, who int, can func() bool, do func()) {
		if can() {
			list = append(list, chance{api.Move{Kind: kind, Who: who}, do})
		}
	}
	for who, u := range w.users {
		offer(api.MoveSend, who, u.canSend, u.send)
	}
	for who, u := range w.users {
		offer(api.MoveReceive, who, u.canReceive, u.receive)
	}
	for who := range w.users {
		d := desk{w, who}
		offer(api.MoveTake, who, d.canTake, d.take)
	}
	offer(api.MoveSync, 0, w.registrar.canSync, w.registrar.sync)
	for who, k := range w.workers {
		offer(api.MoveShard, who, k.canWork, k.work)
	}
	offer(api.MoveMerge, 0, w.canMerge, w.merge)
	return list
}
