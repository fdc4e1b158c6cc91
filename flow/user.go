package flow

import (
	"slices"
	"strings"

	"trommel/api"
	"trommel/queue"
)

// user submits calls and receives answers.
type user struct {
	unsent   []api.Call
	inbox    *queue.Queue[api.Call]
	outbox   *queue.Queue[api.Answer]
	received []api.Answer
	open     int // how many calls were sent whose answers weren't received
	window   int // how many may be open
}

// newUser is one that wants nothing.
func newUser(c api.Config) *user {
	return &user{inbox: queue.New[api.Call](c.Queue), outbox: queue.New[api.Answer](c.Window), window: c.Window}
}

// canSend tells whether MoveSend is ready.
func (u *user) canSend() bool {
	return len(u.unsent) > 0 && u.open < u.window && u.inbox.Room() > 0
}

// send puts the first unsent call into the inbox.
func (u *user) send() {
	u.inbox.Put(u.unsent[0])
	// The row goes on in the same memory, which isn't to keep what was sent.
	u.unsent[0] = api.Call{}
	u.unsent = u.unsent[1:]
	u.open++
}

// canReceive tells whether MoveReceive is ready.
func (u *user) canReceive() bool { return u.outbox.Len() > 0 }

// receive takes the first answer from the outbox.
func (u *user) receive() {
	u.received = append(u.received, u.outbox.Take(1)...)
	u.open--
}

// used is what of a call its kind uses, in memory of its own: it is kept, and
// the texts may be pieces of longer ones.
func used(c api.Call) api.Call {
	own := api.Call{Change: api.Change{Kind: c.Kind}}
	switch c.Kind {
	case api.Sub:
		own.Text = strings.Clone(c.Text)
	case api.Replace:
		own.ID, own.Text = c.ID, strings.Clone(c.Text)
	case api.Unsub:
		own.ID = c.ID
	case api.Match:
		own.Event = slices.Clone(c.Event)
		for i, p := range own.Event {
			own.Event[i].Name, own.Event[i].Word = strings.Clone(p.Name), strings.Clone(p.Word)
		}
	}
	return own
}
