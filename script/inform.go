package script

import (
	"trommel/api"
	"trommel/schema"
	"trommel/value"
)

// opInForm tells whether an op is in form.
func opInForm(o api.Op) bool {
	if !sameOp(o, opNamed(o)) {
		return false
	}
	switch o.Kind {
	case api.OpCall:
		return o.Who >= 0 && o.Who < api.MaxUsers && callInForm(o.Call)
	case api.OpStep:
		return len(o.Nums) >= 1
	case api.OpArm:
		return len(o.Nums) == 2
	case api.OpDrain, api.OpStop, api.OpCrash, api.OpTidy:
		return true
	}
	return false
}

// opNamed is an op with nothing set but what its kind has.
func opNamed(o api.Op) api.Op {
	switch o.Kind {
	case api.OpCall:
		return api.Op{Kind: o.Kind, Who: o.Who, Call: o.Call}
	case api.OpStep, api.OpArm, api.OpCrash:
		return api.Op{Kind: o.Kind, Nums: o.Nums}
	}
	return api.Op{Kind: o.Kind}
}

// callInForm tells whether a call is in form.
func callInForm(c api.Call) bool {
	if !sameCall(c, callNamed(c)) {
		return false
	}
	switch c.Kind {
	case api.Sub:
		return textInForm(c.Text)
	case api.Replace:
		return idInForm(c.ID) && textInForm(c.Text)
	case api.Unsub:
		return idInForm(c.ID)
	case api.Match:
		return eventInForm(c.Event)
	}
	return false
}

// callNamed is a call with nothing set but what its kind has.
func callNamed(c api.Call) api.Call {
	switch c.Kind {
	case api.Sub:
		return api.Call{Change: api.Change{Kind: c.Kind, Text: c.Text}}
	case api.Replace:
		return api.Call{Change: c.Change}
	case api.Unsub:
		return api.Call{Change: api.Change{Kind: c.Kind, ID: c.ID}}
	}
	return api.Call{Change: api.Change{Kind: c.Kind}, Event: c.Event}
}

func idInForm(id int) bool { return id >= 1 && id <= api.MaxID }

func textInForm(text string) bool { return len(text) <= api.MaxText }

// eventInForm tells whether each pair could stand in some event. Together they
// need not be one.
func eventInForm(pairs []api.Pair) bool {
	for _, p := range pairs {
		if !schema.Name(p.Name) || value.Check(p.Value) != api.OK {
			return false
		}
	}
	return true
}
