package live

import (
	"trommel/api"
	"trommel/book"
	"trommel/schema"
)

// registrar decides the calls.
type registrar struct {
	registry *book.Book
	schema   *schema.Schema
}

// decide does a call: its answer, without the numbers of a Match, and what the
// shards are told.
func (r registrar) decide(c api.Call) (api.Answer, api.Task) {
	if c.Kind == api.Match {
		return r.ask(c.Event)
	}
	answer := r.registry.Do(c)[0]
	if answer.Code != api.OK {
		return answer, api.Task{}
	}
	id := c.ID
	if c.Kind == api.Sub {
		id = answer.ID
	}
	// Behind an Unsub the registry has no conjunctions under the number.
	return answer, api.Task{Kind: c.Kind, ID: id, Conjs: r.registry.Conjs(id)}
}

// ask decides a Match. The registry could answer it, but the shards do.
func (r registrar) ask(pairs []api.Pair) (api.Answer, api.Task) {
	event, e := r.schema.Event(pairs...)
	if e != api.OK {
		return api.Answer{Code: e}, api.Task{}
	}
	return api.Answer{}, api.Task{Kind: api.Match, Event: event}
}
