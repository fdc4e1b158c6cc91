package flow_test

import (
	"reflect"
	"runtime"
	"slices"
	"strings"
	"testing"
	"unsafe"

	"trommel/api"
	"trommel/book"
	"trommel/disk"
	"trommel/flow"
)

// roomy are calls of every kind with spare room behind them, whose events have some too, and those rooms whole.
func roomy() ([]api.Call, [][]api.Pair) {
	rooms := [][]api.Pair{
		{word("c", "xy"), number("b", 2), number("a", 1), number("spare", 90), number("room", 91)},
		{number("b", 2), number("b", 1), number("spare", 92)},
		{number("a", 2), number("spare", 93)},
	}
	calls := []api.Call{
		sub(`a {1} & c "x"*`), sub("b {2} | a {9}"), match(rooms[0][:3]...), replace(2, "!b {2}"), match(rooms[1][:2]...), {Change: api.Change{Kind: api.Unsub, ID: 1, Text: "x"}, Event: rooms[0][:3]}, match(rooms[2][:1]...), match(rooms[0][:3]...), sub("a {2"), {},
		{Change: subbed(7, "a {2}"), Event: rooms[2][:1]}, sub("spare {1}"), unsub(2),
	}
	return calls, rooms
}

// Rule 5: calls that are handed in stay as they were, the spare room too, and aren't kept: what is written there behind any step changes no answer.
func TestCallsHandedInAreLeft(t *testing.T) {
	for steps := range 60 {
		s := attributes(t)
		w, e := flow.New(config(most, 2, 3, 4, 2), s, disk.New())
		if e != api.OK {
			t.Fatal(e)
		}
		calls, rooms := roomy()
		own, _ := roomy()
		used := len(calls) - 2
		w.Submit(0, calls[:used]...)
		w.Submit(1, calls[2], calls[4])
		for i := range steps {
			w.Step(i)
		}
		same, sameRooms := roomy()
		if !reflect.DeepEqual(calls, same) || !reflect.DeepEqual(rooms, sameRooms) {
			t.Fatalf("handed in was changed: %v, %v", calls, rooms)
		}
		for _, list := range rooms {
			for i := range list {
				list[i] = number("scribble", 77)
			}
		}
		for i := range calls {
			calls[i] = sub("scribble {77}")
		}
		w.Drain()
		b := book.New(most, s)
		rows := [][]api.Call{own[:used], {own[2], own[4]}}
		want := make([][]api.Answer, 2)
		for _, who := range w.Order() {
			want[who] = append(want[who], b.Do(first(&rows[who]))...)
		}
		for who := range 2 {
			if got := w.Answers(who); !sameAnswers(got, want[who]) || w.Waiting(who) != 0 {
				t.Fatalf("answered is %v, not %v", got, want[who])
			}
		}
	}
	// Nor are those of a Submit that is refused.
	p := down(t, config(most, 2, 3, 4, 2))
	for _, who := range []int{-1, 0} {
		calls, rooms := roomy()
		p.w.Submit(who, calls[:5]...)
		if same, sameRooms := roomy(); !reflect.DeepEqual(calls, same) || !reflect.DeepEqual(rooms, sameRooms) {
			t.Fatalf("handed in was changed: %v, %v", calls, rooms)
		}
	}
}

// Rule 5: a row that was submitted first isn't gone on in: the spare room behind it is the caller's.
func TestRowIsNotGoneOnIn(t *testing.T) {
	p := begun(t, least)
	row := make([]api.Call, 1, 10)
	row[0] = sub("a {1}")
	p.submit(0, row...)
	p.submit(0, sub("a {2}"), sub("a {3}"))
	if got := row[:3]; got[1].Kind != 0 || got[2].Kind != 0 {
		t.Errorf("behind the row stand %v", got)
	}
	all := row[:10]
	for i := range all {
		all[i] = sub("a {77}")
	}
	p.m.people[0].unsent = []api.Call{sub("a {1}"), sub("a {2}"), sub("a {3}")}
	p.drain()
}

// Rule 5: picks stay as they were, the spare room too.
func TestPicksAreLeft(t *testing.T) {
	p := begun(t, config(most, 2, 2, 2, 2))
	p.submit(0, sub("a {1}"), match())
	picks := []int{5, -3, 0, 7, -1, 2, 90, 91}
	given := slices.Clone(picks)
	for range 5 {
		p.w.Run(picks[:6]...)
		if !slices.Equal(picks, given) {
			t.Fatalf("the picks are now %v", picks)
		}
	}
}

// room is where a list lies, its spare room too.
type room struct{ from, to uintptr }

func roomOf[T any](list []T) room {
	from := uintptr(unsafe.Pointer(unsafe.SliceData(list)))
	return room{from, from + uintptr(cap(list))*unsafe.Sizeof(*new(T))}
}

// holdApart holds that no two rooms have anything together.
func holdApart(t *testing.T, rooms []room) {
	t.Helper()
	for i, a := range rooms {
		for _, b := range rooms[:i] {
			if a.from < b.to && b.from < a.to {
				t.Fatal("two lists share memory")
			}
		}
	}
}

// scribble writes over a list that was answered, behind its end, and appends to it.
func scribble[T any](list []T, with T) {
	_ = append(list, with, with, with)
	list = list[:cap(list)]
	for i := range list {
		list[i] = with
	}
}

// told is all that a system tells in lists.
type told struct {
	answers [][]api.Answer
	ids     [][]int
	moves   [][]api.Move
	changes [][]api.Change
}

func (p *twin) tell(all *told) {
	all.moves = append(all.moves, p.w.Ready())
	all.ids = append(all.ids, p.w.Order())
	all.changes = append(all.changes, p.w.Changes())
	for who := range p.m.c.Users + 1 {
		answers := p.w.Answers(who)
		all.answers = append(all.answers, answers)
		for _, a := range answers {
			all.ids = append(all.ids, a.IDs)
		}
	}
}

func (all *told) rooms() []room {
	var rooms []room
	for _, list := range all.answers {
		rooms = append(rooms, roomOf(list))
	}
	for _, list := range all.ids {
		rooms = append(rooms, roomOf(list))
	}
	for _, list := range all.moves {
		rooms = append(rooms, roomOf(list))
	}
	for _, list := range all.changes {
		rooms = append(rooms, roomOf(list))
	}
	return rooms
}

func (all *told) scribble() {
	for _, list := range all.ids {
		scribble(list, 3)
	}
	for _, list := range all.answers {
		scribble(list, api.Answer{Code: 7, ID: 7, IDs: []int{7}})
	}
	for _, list := range all.moves {
		scribble(list, move(7, 7))
	}
	for _, list := range all.changes {
		scribble(list, subbed(7, "scribble"))
	}
}

// Rule 5: what is answered is new memory: neither the system nor its disk nor another answer sees what is written there.
func TestAnswersAreNew(t *testing.T) {
	p := begun(t, config(most, 2, 3, 4, 2))
	event := []api.Pair{word("c", "xy"), number("b", 5), number("a", 1)}
	p.submit(0, sub(`(a {2, 1} | c {"xy", "x"} | a {1}) & (b {5, 6} | !c "y"*)`), sub("!b {2}"), match(event...), match(), match(event...), unsub(9))
	p.submit(1, match(event...), sub("a {1}"), match(event...), replace(1, "a {1}"), match(event...))
	for i := range 100 {
		var all told
		p.tell(&all)
		p.tell(&all)
		holdApart(t, all.rooms())
		all.scribble()
		p.hold()
		if i == 40 {
			p.tidies(api.OK)
		}
		p.step(i)
	}
	p.answers(0, []api.Call{match(event...)}, met(1, 2, 3))
	p.arm(1, 0)
	p.tidies(api.ErrDown)
	var all told
	p.tell(&all)
	p.tell(&all)
	holdApart(t, all.rooms())
	all.scribble()
	p.isDown()
}

// Rule 5: what was answered stays, whatever becomes of the system and of its disk.
func TestAnswersStay(t *testing.T) {
	p := begun(t, config(most, 2, 3, 4, 2))
	p.answers(0, []api.Call{sub("a {1} | !b {2, 1}"), sub("a {1, 2}"), match(number("a", 1)), match(), unsub(9)}, given(1), given(2), met(1, 2), met(1), code(api.ErrNoSub))
	p.submit(0, match())
	answers, order, changes, ready := p.w.Answers(0), p.w.Order(), p.w.Changes(), p.w.Ready()
	for i, text := range texts() {
		p.submit(i%2, replace(1+i%3, text), sub(text), match(number("a", 2)), unsub(i+3))
		for range i {
			p.step(i)
		}
		if i%5 == 0 {
			p.tidies(api.OK)
		}
	}
	p.drain()
	p.crash()
	if !sameAnswers(answers, []api.Answer{given(1), given(2), met(1, 2), met(1), code(api.ErrNoSub)}) || !slices.Equal(order, make([]int, 5)) || !slices.Equal(changes, []api.Change{subbed(1, "a {1} | !b {2, 1}"), subbed(2, "a {1, 2}")}) || !slices.Equal(ready, []api.Move{send(0)}) {
		t.Errorf("answered were %v, %v, %v, %v", answers, order, changes, ready)
	}
}

// heap is how much is in use behind all that is no longer needed.
func heap() uint64 {
	runtime.GC()
	runtime.GC()
	var m runtime.MemStats
	runtime.ReadMemStats(&m)
	return m.HeapAlloc
}

// Rule 5: a text or a word that is a piece of a longer one doesn't keep that one, nor does a call what its kind doesn't use, from Submit on.
func TestTextsAreNotKept(t *testing.T) {
	w, e := flow.New(config(most, 2, 16, 16, 2), attributes(t), disk.New())
	if e != api.OK {
		t.Fatal(e)
	}
	// Each time another one, so that none is the same memory.
	piece := func(text string) string { return (text + strings.Repeat(" ", 1<<20))[:len(text)] }
	pairs := func() []api.Pair { return make([]api.Pair, 1<<15) }
	before := heap()
	for i := 1; i <= 5; i++ {
		e := w.Submit(i%2, sub(piece("a {1}")), replace(1, piece(`c {"x"}`)), match(word(piece("c"), piece("x"))), match(word(piece("z"), piece("x"))), sub(piece("a {")),
			api.Call{Change: api.Change{Kind: api.Unsub, ID: 99, Text: strings.Repeat("x", 1<<20)}, Event: pairs()}, api.Call{Change: api.Change{Kind: api.Match, Text: strings.Repeat("x", 1<<20)}}, api.Call{Change: subbed(0, "a {2}"), Event: pairs()}, api.Call{Change: api.Change{Text: strings.Repeat("x", 1<<20)}, Event: pairs()})
		if e != api.OK {
			t.Fatal(e)
		}
	}
	for step := range 3 {
		if after := heap(); after > before+1<<20 {
			t.Errorf("%d bytes are kept, %d", after-before, step)
		}
		if step == 0 {
			w.Run(0, 0, 0, 0, 5, 5, 5, 5, -1, -1)
		} else if w.Drain(); w.Waiting(0) > 0 || w.Waiting(1) > 0 {
			t.Error("somebody waits")
		}
	}
	runtime.KeepAlive(w)
}

// LANGUAGE.md, 8: what was sent, taken and answered isn't kept, but the answers and the order.
func TestSentIsFree(t *testing.T) {
	d := disk.New()
	w, e := flow.New(config(most, 3, 4, 4, 2), attributes(t), d)
	if e != api.OK {
		t.Fatal(e)
	}
	before := heap()
	for i := range 20 {
		w.Submit(i%2, sub(strings.Repeat("x", 1<<20)), match(make([]api.Pair, 1<<14)...))
		w.Submit(i%2, slices.Repeat([]api.Call{sub("a {1}"), unsub(i + 1)}, 1)...)
	}
	grown := heap()
	if grown < before+20<<20 {
		t.Errorf("only %d bytes more: this tells nothing", grown-before)
	}
	// A call of which nothing is left to do goes at once, though others wait behind it.
	for w.Waiting(0)+w.Waiting(1) > 8 {
		w.Step(0)
	}
	if after := heap(); after > before+8<<20 {
		t.Errorf("%d bytes are kept of %d", after-before, grown-before)
	}
	w.Drain()
	if after := heap(); after > before+1<<19 {
		t.Errorf("%d bytes are kept of %d", after-before, grown-before)
	}
	if len(w.Answers(0)) != 40 || len(w.Answers(1)) != 40 {
		t.Error("somebody waits")
	}
	runtime.KeepAlive(d)
}

// Rule 1: very many calls end.
func TestManyCalls(t *testing.T) {
	const count = 100000
	for _, c := range []api.Config{least, config(most, 2, 16, 16, 1)} {
		w, e := flow.New(c, attributes(t), disk.New())
		if e != api.OK {
			t.Fatal(e)
		}
		if e := w.Submit(0, slices.Repeat([]api.Call{match()}, count)...); e != api.OK || w.Waiting(0) != count {
			t.Fatalf("Submit = %d; Waiting = %d", e, w.Waiting(0))
		}
		if got, want := w.Drain(), count*(c.Shards+4); got != want {
			t.Errorf("Drain = %d, not %d", got, want)
		}
		if len(w.Answers(0)) != count || len(w.Order()) != count || w.Waiting(0) != 0 {
			t.Error("somebody waits")
		}
	}
}
