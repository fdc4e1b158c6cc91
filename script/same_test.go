package script_test

import (
	"math"
	"math/rand/v2"
	"slices"
	"testing"

	"trommel/api"
	"trommel/script"
)

// same holds what Same answers, either way round.
func same(t *testing.T, want bool, a, b api.Script) {
	t.Helper()
	if wantSame(a, b) != want {
		t.Fatalf("%v and %v are the same: %v", a, b, !want)
	}
	if script.Same(a, b) != want || script.Same(b, a) != want {
		t.Fatalf("Same(%v, %v) = %v, %v", a, b, script.Same(a, b), script.Same(b, a))
	}
}

// full has something in every field, and needn't be in form.
func full() api.Script {
	return api.Script{
		Config: api.Config{Limits: api.Limits{Depth: 1, Conj: 2, Subs: 3, Total: 4}, Shards: 5, Queue: 6, Window: 7, Users: 8},
		Attrs:  []api.Attr{{Name: "a", Kind: 1}, {Name: "b", Kind: 2}},
		Ops: []api.Op{
			{Kind: 1, Who: 2, Call: api.Call{Change: api.Change{Kind: 3, ID: 4, Text: "x"}, Event: []api.Pair{{Name: "a", Value: api.Value{Kind: 1, Int: 5, Word: "y"}}, {Name: "b", Value: api.Value{Kind: 2, Int: 6, Word: "z"}}}}, Nums: []int{7, 8}},
			{Kind: 9, Who: 10, Call: api.Call{Change: api.Change{Kind: 11, ID: 12, Text: "u"}, Event: []api.Pair{{Name: "c", Value: api.Value{Kind: 3, Int: 13, Word: "v"}}}}, Nums: []int{14}},
		},
	}
}

// P25.1: a script is the same as itself, and as one that was made alike.
func TestSameAsItself(t *testing.T) {
	same(t, true, api.Script{}, api.Script{})
	same(t, true, full(), full())
	same(t, false, full(), api.Script{})
	chance := rand.New(rand.NewPCG(25, 5))
	for range 500 {
		s := someScript(chance)
		same(t, true, s, s)
		other := someScript(chance)
		same(t, wantSame(s, other), s, other)
	}
}

// P25.1: scripts that differ in one field each.
func TestSameFields(t *testing.T) {
	numbers := func(s *api.Script) []*int {
		list := []*int{&s.Config.Depth, &s.Config.Conj, &s.Config.Subs, &s.Config.Total, &s.Config.Shards, &s.Config.Queue, &s.Config.Window, &s.Config.Users}
		for i := range s.Attrs {
			list = append(list, &s.Attrs[i].Kind)
		}
		for i := range s.Ops {
			o := &s.Ops[i]
			list = append(list, &o.Kind, &o.Who, &o.Call.Kind, &o.Call.ID)
			for j := range o.Nums {
				list = append(list, &o.Nums[j])
			}
			for j := range o.Call.Event {
				list = append(list, &o.Call.Event[j].Kind, &o.Call.Event[j].Int)
			}
		}
		return list
	}
	texts := func(s *api.Script) []*string {
		var list []*string
		for i := range s.Attrs {
			list = append(list, &s.Attrs[i].Name)
		}
		for i := range s.Ops {
			c := &s.Ops[i].Call
			list = append(list, &c.Text)
			for j := range c.Event {
				list = append(list, &c.Event[j].Name, &c.Event[j].Word)
			}
		}
		return list
	}
	whole := full()
	for i := range numbers(&whole) {
		for _, n := range []int{-1, 99, 1 << 32, math.MinInt, math.MaxInt} {
			s := full()
			*numbers(&s)[i] = n
			same(t, false, s, full())
			same(t, true, s, s)
		}
		// By what lies above the first 32 bits too.
		s := full()
		*numbers(&s)[i] += 1 << 32
		same(t, false, s, full())
	}
	for i := range texts(&whole) {
		for _, text := range []string{"", "other", *texts(&whole)[i] + "\x00", " " + *texts(&whole)[i]} {
			s := full()
			*texts(&s)[i] = text
			same(t, false, s, full())
		}
	}
}

// P25.1: lists that differ in one element each: one less, one more, two changed for one another.
func TestSameElements(t *testing.T) {
	for _, change := range []func(s *api.Script){
		func(s *api.Script) { s.Attrs = nil },
		func(s *api.Script) { s.Attrs = s.Attrs[:1] },
		func(s *api.Script) { s.Attrs = s.Attrs[1:] },
		func(s *api.Script) { s.Attrs = append(s.Attrs, api.Attr{}) },
		func(s *api.Script) { slices.Reverse(s.Attrs) },
		func(s *api.Script) { s.Ops = nil },
		func(s *api.Script) { s.Ops = s.Ops[:1] },
		func(s *api.Script) { s.Ops = s.Ops[1:] },
		func(s *api.Script) { s.Ops = append(s.Ops, api.Op{}) },
		func(s *api.Script) { s.Ops = append(s.Ops, s.Ops[1]) },
		func(s *api.Script) { slices.Reverse(s.Ops) },
		func(s *api.Script) { s.Ops[0].Nums = nil },
		func(s *api.Script) { s.Ops[0].Nums = []int{7} },
		func(s *api.Script) { s.Ops[0].Nums = []int{8} },
		func(s *api.Script) { s.Ops[0].Nums = []int{8, 7} },
		func(s *api.Script) { s.Ops[0].Nums = []int{7, 8, 0} },
		func(s *api.Script) { s.Ops[1].Nums = []int{0, 14} },
		func(s *api.Script) { s.Ops[1].Nums = []int{} },
		func(s *api.Script) { s.Ops[0].Call.Event = nil },
		func(s *api.Script) { s.Ops[0].Call.Event = s.Ops[0].Call.Event[:1] },
		func(s *api.Script) { s.Ops[0].Call.Event = s.Ops[0].Call.Event[1:] },
		func(s *api.Script) { s.Ops[0].Call.Event = append(s.Ops[0].Call.Event, api.Pair{}) },
		func(s *api.Script) { slices.Reverse(s.Ops[0].Call.Event) },
		func(s *api.Script) { s.Ops[1].Call.Event = []api.Pair{} },
	} {
		s := full()
		change(&s)
		same(t, false, s, full())
		same(t, true, s, s)
	}
}

// P25.1: an empty list is as one that is nil.
func TestSameEmptyAndNil(t *testing.T) {
	same(t, true, api.Script{}, api.Script{Attrs: []api.Attr{}, Ops: []api.Op{}})
	same(t, true, api.Script{Attrs: []api.Attr{}}, api.Script{Ops: []api.Op{}})
	for _, o := range opsInForm() {
		a, b := api.Script{Ops: []api.Op{o, o}}, api.Script{Ops: []api.Op{o, o}}
		if len(o.Nums) == 0 {
			a.Ops[0].Nums = []int{}
			b.Ops[1].Nums = make([]int, 0, 5)
		}
		if len(o.Call.Event) == 0 {
			a.Ops[1].Call.Event = []api.Pair{}
			b.Ops[0].Call.Event = make([]api.Pair, 0, 5)
		}
		same(t, true, a, b)
	}
}
