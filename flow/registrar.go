package flow

import (
	"trommel/api"
	"trommel/book"
	"trommel/disk"
	"trommel/journal"
	"trommel/schema"
)

// registrar decides the calls and makes their changes last.
type registrar struct {
	registry *book.Book
	schema   *schema.Schema
	journal  *journal.Journal
	appended int // how many changes, of all calls that were taken
	down     bool
}

// open is the registrar of the registry that a disk's journal tells.
func open(l api.Limits, s *schema.Schema, d *disk.Disk) (*registrar, api.Errno) {
	j, next, changes, e := journal.Open(d)
	if e != api.OK {
		return nil, e
	}
	b := book.New(l, s)
	if e := b.Apply(changes...); e != api.OK {
		return nil, e
	}
	if e := b.Start(next); e != api.OK {
		return nil, e
	}
	return &registrar{registry: b, schema: s, journal: j}, api.OK
}

// known are the tasks that tell a shard the whole registry.
func (r *registrar) known() []api.Task {
	var tasks []api.Task
	for _, id := range r.registry.IDs() {
		tasks = append(tasks, api.Task{Kind: api.Sub, ID: id, Conjs: r.registry.Conjs(id)})
	}
	return tasks
}

// decide does a call, of which nothing is set but what its kind uses: its
// answer, without the numbers of a Match, and what the shards are told.
func (r *registrar) decide(c api.Call) (api.Answer, api.Task) {
	if c.Kind == api.Match {
		event, e := r.schema.Event(c.Event...)
		if e != api.OK {
			return api.Answer{Code: e}, api.Task{}
		}
		return api.Answer{}, api.Task{Kind: api.Match, Event: event}
	}
	answer := r.registry.Do(c)[0]
	if answer.Code != api.OK {
		return answer, api.Task{}
	}
	id := c.ID
	if c.Kind == api.Sub {
		id = answer.ID
	}
	// Behind an Unsub the registry has no conjunctions under the number.
	return answer, api.Task{Kind: c.Kind, ID: id, Conjs: r.registry.Conjs(id)}
}

// keep appends to the journal what the shards are told, with its text, if it is
// a change.
func (r *registrar) keep(t api.Task, text string) api.Errno {
	switch t.Kind {
	case api.Sub, api.Replace, api.Unsub:
		r.appended++
		return r.told(r.journal.Append(api.Change{Kind: t.Kind, ID: t.ID, Text: text}))
	}
	return api.OK
}

// canSync tells whether MoveSync is ready.
func (r *registrar) canSync() bool { return r.journal.Pending() > 0 }

// sync makes all changes last.
func (r *registrar) sync() { r.told(r.journal.Sync()) }

// tidy writes the journal anew, with nothing but what the registry needs.
func (r *registrar) tidy() api.Errno {
	return r.told(r.journal.Rewrite(r.registry.Next(), r.registry.Changes()...))
}

// lasting is how many of the changes that were appended last.
func (r *registrar) lasting() int { return r.appended - r.journal.Pending() }

// told keeps whether the disk answered an error: how much lasts then nobody
// knows till it is opened again.
func (r *registrar) told(e api.Errno) api.Errno {
	r.down = e != api.OK
	return e
}

// desk is where the registrar takes the calls of one user.
type desk struct {
	*World
	who int
}

// canTake tells whether MoveTake is ready.
func (d desk) canTake() bool {
	return d.users[d.who].inbox.Len() > 0 && allOf(d.workers, (*worker).hasRoom)
}

// take decides the first call of the inbox.
func (d desk) take() {
	u := d.users[d.who]
	c := u.inbox.Take(1)[0]
	answer, task := d.registrar.decide(c)
	if d.registrar.keep(task, c.Text) != api.OK {
		return
	}
	d.order = append(d.order, d.who)
	d.taken = append(d.taken, decided{u.outbox, answer, d.registrar.appended})
	for _, k := range d.workers {
		k.tasks.Put(task)
	}
}
