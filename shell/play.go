package shell

import (
	"trommel/api"
	"trommel/disk"
	"trommel/flow"
	"trommel/schema"
)

// play is a script that is being done, and what was told of it so far.
type play struct {
	page
	config api.Config
	schema *schema.Schema
	disk   *disk.Disk
	world  *flow.World // nil, if there is none over the disk
}

// begin is the play of a script of which no op was done.
func begin(s api.Script) *play {
	// The attributes of a script in form are a schema's, and over a new disk
	// there is a system: there are no errors to ask for.
	attributes, _ := schema.New(s.Attrs...)
	p := &play{config: s.Config, schema: attributes}
	p.open(disk.New())
	return p
}

// open begins a system over a disk. With an error the disk is the play's still:
// it may crash again.
func (p *play) open(d *disk.Disk) api.Errno {
	w, e := flow.New(p.config, p.schema, d)
	p.disk, p.world = d, w
	return e
}

// do does the op of a number, and tells what came of it.
func (p *play) do(number int, o api.Op) {
	switch {
	case o.Kind == api.OpCrash:
		p.tellSystem()
		p.tellDone(number, p.open(p.disk.Crash(o.Nums...)))
	case p.world == nil:
		p.tellDone(number, api.ErrDown)
	case o.Kind == api.OpStep:
		p.tellMoved(number, p.world.Run(o.Nums...))
	case o.Kind == api.OpDrain:
		p.tellMoved(number, p.world.Drain())
	default:
		p.tellDone(number, p.ask(o))
	}
}

// ask does an op that is answered with an error, or OK.
func (p *play) ask(o api.Op) api.Errno {
	switch o.Kind {
	case api.OpCall:
		return p.world.Submit(o.Who, o.Call)
	case api.OpArm:
		return p.disk.Arm(o.Nums[0], o.Nums[1])
	case api.OpTidy:
		return p.world.Tidy()
	case api.OpStop:
		p.world.Stop()
	}
	return api.OK
}

// tellSystem has the system tell of itself.
func (p *play) tellSystem() {
	if p.world != nil {
		p.tellUsers()
	}
	if p.world == nil || p.world.Down() {
		p.tell("down")
		return
	}
	p.tell("registry", p.world.Subs(), p.world.Total(), p.world.Next())
}

// tellUsers tells what the users have received, and the order in which their
// calls were taken.
func (p *play) tellUsers() {
	for user := range flow.Clamp(p.config).Users {
		for _, a := range p.world.Answers(user) {
			p.tellAnswer(user, a)
		}
	}
	p.tell("order", p.world.Order()...)
}
