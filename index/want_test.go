package index_test

import (
	"maps"
	"math"
	"slices"
	"strings"
	"testing"

	"trommel/api"
	"trommel/conj"
	"trommel/index"
	"trommel/key"
	"trommel/part"
	"trommel/value"
)

// member is a conjunction of a subscription, under its own number.
type member struct {
	number int
	c      api.Conj
}

// sheet is an index as the chapter tells it: the subscriptions with their
// conjunctions, how many numbers were given, and how many conjunctions are dead.
type sheet struct {
	subs        map[int][]member
	given, dead int
}

func (s *sheet) put(id int, conjs ...api.Conj) api.Errno {
	if id < 1 {
		return api.ErrRange
	}
	for _, c := range conjs {
		if conj.Check(c) != api.OK {
			return api.ErrForm
		}
	}
	s.dead += len(s.subs[id])
	s.subs[id] = nil
	for _, c := range conjs {
		s.given++
		s.subs[id] = append(s.subs[id], member{s.given, copied(c)})
	}
	return api.OK
}

func (s *sheet) drop(ids ...int) int {
	count := 0
	for _, id := range ids {
		if members, there := s.subs[id]; there {
			s.dead += len(members)
			delete(s.subs, id)
			count++
		}
	}
	return count
}

func (s *sheet) compact() int {
	dead := s.dead
	s.dead = 0
	return dead
}

func (s *sheet) ids() []int { return slices.Sorted(maps.Keys(s.subs)) }

func (s *sheet) conjs() int {
	count := 0
	for _, members := range s.subs {
		count += len(members)
	}
	return count
}

func (s *sheet) numbers(id int) []int {
	var numbers []int
	for _, m := range s.subs[id] {
		numbers = append(numbers, m.number)
	}
	return numbers
}

// find is a conjunction by its number, and the subscription that has it.
func (s *sheet) find(number int) (int, api.Conj) {
	for id, members := range s.subs {
		for _, m := range members {
			if m.number == number {
				return id, m.c
			}
		}
	}
	return 0, api.Conj{}
}

func (s *sheet) match(event []api.Pair) []int {
	var ids []int
	for _, id := range s.ids() {
		if slices.ContainsFunc(s.subs[id], func(m member) bool { return conj.Holds(m.c, event) }) {
			ids = append(ids, id)
		}
	}
	return ids
}

// part holds all conjunctions under their numbers.
func (s *sheet) part() *part.Part {
	p := part.New()
	for _, members := range s.subs {
		for _, m := range members {
			p.Add(m.number, m.c)
		}
	}
	return p
}

func sameTrace(a, b api.Trace) bool {
	return slices.Equal(a.Lists, b.Lists) && slices.Equal(a.Judged, b.Judged)
}

// holdSubs holds what an index tells of its subscriptions against the sheet.
func holdSubs(t *testing.T, x *index.Index, s *sheet) {
	t.Helper()
	if x.Subs() != len(s.subs) || x.Conjs() != s.conjs() || x.Tally.Subs() != x.Subs() || x.Tally.Conjs() != x.Conjs() {
		t.Fatalf("%v: Subs %d, Conjs %d; of the Tally %d, %d", s, x.Subs(), x.Conjs(), x.Tally.Subs(), x.Tally.Conjs())
	}
	ids := s.ids()
	if got := x.IDs(); !slices.Equal(got, ids) {
		t.Fatalf("%v: IDs = %v", s, got)
	}
	for _, id := range append([]int{math.MinInt, -1, 0, 1, 2, 3, math.MaxInt}, ids...) {
		for _, near := range []int{id - 1, id, id + 1} {
			if got, want := x.Numbers(near), s.numbers(near); !slices.Equal(got, want) {
				t.Fatalf("%v: Numbers(%d) = %v, not %v", s, near, got, want)
			}
		}
	}
	owners := map[int]int{}
	for id, members := range s.subs {
		for _, m := range members {
			owners[m.number] = id
		}
	}
	for number := -2; number <= s.given+2; number++ {
		if got := x.Owner(number); got != owners[number] {
			t.Fatalf("%v: Owner(%d) = %d", s, number, got)
		}
	}
	if x.Owner(math.MinInt) != 0 || x.Owner(math.MaxInt) != 0 {
		t.Fatalf("%v: Owner of the outermost numbers: %d, %d", s, x.Owner(math.MinInt), x.Owner(math.MaxInt))
	}
}

// holdEvent holds what an event is answered against the sheet, and against P15.2.
func holdEvent(t *testing.T, x *index.Index, s *sheet, event []api.Pair) {
	t.Helper()
	ids, trace := x.Match(event), x.Trace(event)
	if want := s.match(event); !slices.Equal(ids, want) {
		t.Fatalf("%v: Match(%v) = %v, not %v", s, event, ids, want)
	}
	if want := s.part().Trace(event); !sameTrace(trace, want) {
		t.Fatalf("%v: Trace(%v) = %v, not %v", s, event, trace, want)
	}
	var owners []int
	for _, number := range trace.Judged {
		owners = append(owners, x.Owner(number))
	}
	for _, id := range ids {
		if !slices.Contains(owners, id) {
			t.Fatalf("%v: Match(%v) names %d, of which nothing was judged", s, event, id)
		}
	}
	holdLooks(t, s, event, trace)
}

// first is the value of the first pair of a name, if it is in form.
func first(event []api.Pair, name string) (api.Value, bool) {
	for _, p := range event {
		if p.Name == name {
			return p.Value, value.Check(p.Value) == api.OK
		}
	}
	return api.Value{}, false
}

// holdLooks holds what a match looks at to P4.
func holdLooks(t *testing.T, s *sheet, event []api.Pair, trace api.Trace) {
	t.Helper()
	var names []string
	for _, p := range event {
		if _, ok := first(event, p.Name); ok && !slices.Contains(names, p.Name) {
			names = append(names, p.Name)
		}
	}
	for _, o := range trace.Lists {
		v, ok := first(event, o.Attr)
		switch o.Kind {
		case api.KeyInt:
			ok = ok && v.Kind == api.KindInt && v.Int == o.Int
		case api.KeySpan:
			ok = ok && v.Kind == api.KindInt && (v.Int-api.Least)>>o.Level == o.Key.Int
		case api.KeyWord:
			ok = ok && v.Kind == api.KindWord && v.Word == o.Word
		case api.KeyPrefix:
			ok = ok && v.Kind == api.KindWord && strings.HasPrefix(v.Word, o.Word)
		default:
			ok = o.Key == zeroKey && o.Part == 0
		}
		if !ok || o.Part > len(names) || o.Part < 0 {
			t.Fatalf("%v: a match of %v opens %v", s, event, o)
		}
	}
	for _, number := range trace.Judged {
		_, c := s.find(number)
		stands := 0
		for _, o := range trace.Lists {
			if o.Part == len(c.Pos) && (o.Key == zeroKey || slices.Contains(keysOf(c), o.Key)) {
				stands++
			}
		}
		if c.Never || stands < max(len(c.Pos), 1) {
			t.Fatalf("%v: a match of %v judges %v, on which %d lists stand", s, event, c, stands)
		}
	}
}

// keysOf are those of all predicates of a conjunction.
func keysOf(c api.Conj) []api.Key {
	var keys []api.Key
	for _, p := range slices.Concat(c.Pos, c.Neg) {
		keys = append(keys, key.Of(p)...)
	}
	return keys
}

// pair is an index and its sheet, to which the same is done.
type pair struct {
	t *testing.T
	x *index.Index
	s *sheet
}

func newPair(t *testing.T) *pair {
	return &pair{t: t, x: index.New(), s: &sheet{subs: map[int][]member{}}}
}

func (p *pair) put(id int, conjs ...api.Conj) api.Errno {
	p.t.Helper()
	got, want := p.x.Put(id, conjs...), p.s.put(id, conjs...)
	if got != want {
		p.t.Fatalf("%v: Put(%d, %v) = %d, not %d", p.s, id, conjs, got, want)
	}
	return got
}

func (p *pair) drop(ids ...int) int {
	p.t.Helper()
	got, want := p.x.Drop(ids...), p.s.drop(ids...)
	if got != want {
		p.t.Fatalf("%v: Drop(%v) = %d, not %d", p.s, ids, got, want)
	}
	return got
}

func (p *pair) compact() int {
	p.t.Helper()
	got, want := p.x.Compact(), p.s.compact()
	if got != want {
		p.t.Fatalf("%v: Compact = %d, not %d", p.s, got, want)
	}
	return got
}

func (p *pair) hold(events ...[]api.Pair) {
	p.t.Helper()
	holdSubs(p.t, p.x, p.s)
	for _, event := range append(events, nil) {
		holdEvent(p.t, p.x, p.s, event)
	}
}

// copied shares no list with c.
func copied(c api.Conj) api.Conj {
	each := func(preds []api.Pred) []api.Pred {
		var own []api.Pred
		for _, p := range preds {
			p.Ints, p.Words = slices.Clone(p.Ints), slices.Clone(p.Words)
			own = append(own, p)
		}
		return own
	}
	return api.Conj{Never: c.Never, Pos: each(c.Pos), Neg: each(c.Neg)}
}
