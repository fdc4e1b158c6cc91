package book_test

import (
	"reflect"
	"runtime"
	"slices"
	"strconv"
	"strings"
	"testing"
	"unsafe"

	"trommel/api"
	"trommel/book"
)

// roomy are calls of every kind with spare room behind them, whose events have some too, and those rooms whole.
func roomy() ([]api.Call, [][]api.Pair) {
	rooms := [][]api.Pair{
		{word("c", "xy"), number("b", 2), number("a", 1), number("spare", 90), number("room", 91)},
		{number("b", 2), number("b", 1), number("spare", 92)},
		{number("a", 2), number("spare", 93)},
	}
	calls := []api.Call{
		sub(`a {1} & c "x"*`), sub("b {2} | a {9}"), match(rooms[0][:3]...), replace(2, "!b {2}"), match(rooms[1][:2]...), unsub(1), match(rooms[2][:1]...), match(rooms[0][:3]...), sub("a {2"), {}, {Change: subbed(7, "a {2}"), Event: rooms[2][:1]},
		sub("spare {1}"), unsub(2),
	}
	return calls, rooms
}

// Rule 5: calls and events that are handed in stay as they were, the spare room too, and aren't kept.
func TestCallsHandedInAreLeft(t *testing.T) {
	p := newPair(t, most)
	calls, rooms := roomy()
	own, _ := roomy()
	used := len(calls) - 2
	got := p.b.Do(calls[:used]...)
	same, sameRooms := roomy()
	if !reflect.DeepEqual(calls, same) || !reflect.DeepEqual(rooms, sameRooms) {
		t.Fatalf("handed in was changed: %v, %v", calls, rooms)
	}
	for _, list := range rooms {
		for i := range list {
			list[i] = number("scribble", 77)
		}
	}
	for i := range calls {
		calls[i] = sub("scribble {77}")
	}
	for i, c := range own[:used] {
		if want := p.l.do(c); !sameAnswer(got[i], want) {
			t.Errorf("%v is answered %v, not %v", c, got[i], want)
		}
	}
	p.hold()
	for _, event := range events() {
		p.do(match(event...))
	}
}

// Rule 5: so do changes.
func TestChangesHandedInAreLeft(t *testing.T) {
	p := newPair(t, most)
	row := func() []api.Change {
		return []api.Change{subbed(1, "a {1}"), subbed(5, `c "x"*`), replaced(1, "a {1, 2}"), unsubbed(5), subbed(8, "!a {1}"), {}, subbed(9, "a {5}"), unsubbed(1)}
	}
	changes := row()
	for _, cut := range []int{5, 7} {
		got, want := p.b.Apply(changes[:cut]...), p.l.apply(row()[:cut]...)
		if got != want || !slices.Equal(changes, row()) {
			t.Fatalf("Apply = %d, not %d; handed in is now %v", got, want, changes)
		}
	}
	for i := range changes {
		changes[i] = unsubbed(1)
	}
	p.hold()
	for _, event := range events() {
		p.do(match(event...))
	}
}

// room is where a list lies, its spare room too.
type room struct{ from, to uintptr }

func roomOf[T any](list []T) room {
	from := uintptr(unsafe.Pointer(unsafe.SliceData(list)))
	return room{from, from + uintptr(cap(list))*unsafe.Sizeof(*new(T))}
}

// roomsOf are those of conjunctions and of all lists within.
func roomsOf(conjs []api.Conj) []room {
	rooms := []room{roomOf(conjs)}
	for _, c := range conjs {
		rooms = append(rooms, roomOf(c.Pos), roomOf(c.Neg))
		for _, p := range slices.Concat(c.Pos, c.Neg) {
			rooms = append(rooms, roomOf(p.Ints), roomOf(p.Words))
		}
	}
	return rooms
}

// holdApart holds that no two rooms have anything together.
func holdApart(t *testing.T, rooms []room) {
	t.Helper()
	for i, a := range rooms {
		for _, b := range rooms[:i] {
			if a.from < b.to && b.from < a.to {
				t.Fatal("two lists share memory")
			}
		}
	}
}

// scribble writes over a list that was answered, behind its end, and appends to it.
func scribble[T any](list []T, with T) {
	_ = append(list, with, with, with)
	list = list[:cap(list)]
	for i := range list {
		list[i] = with
	}
}

// scribbleConjs writes over conjunctions and all lists within.
func scribbleConjs(conjs []api.Conj) {
	bad := api.Pred{Kind: api.PredInts, Attr: "scribble", Ints: []int{77}}
	for _, c := range conjs {
		for _, p := range slices.Concat(c.Pos, c.Neg) {
			scribble(p.Ints, 77)
			scribble(p.Words, "scribble")
		}
		scribble(c.Pos, bad)
		scribble(c.Neg, bad)
	}
	scribble(conjs, api.Conj{Neg: []api.Pred{bad}})
}

// Rule 5: what is answered is new memory: neither the book nor another answer sees what is written there.
func TestAnswersAreNew(t *testing.T) {
	p := newPair(t, most)
	p.do(sub(`(a {2, 1} | c {"xy", "x"} | a {1}) & (b {5, 6} | !c "y"*) & !a {7, 8} & a [0, 9]`), sub(`!(a {3, 4} | c "x"*)`), sub("a [5, 3]"), sub("a {1, 2}"))
	event := []api.Pair{word("c", "xy"), number("b", 5), number("a", 1)}
	for round := range 4 {
		var answers [][]api.Answer
		var ids [][]int
		var changes [][]api.Change
		var conjs [][]api.Conj
		rooms := []room{roomOf(event)}
		for range 3 {
			row := p.b.Do(match(event...), match(), match(event...), unsub(99))
			answers = append(answers, row, p.b.Do(match(event...)))
			ids = append(ids, p.b.IDs(), row[0].IDs, row[1].IDs, row[2].IDs, answers[len(answers)-1][0].IDs)
			changes = append(changes, p.b.Changes())
			for id := 1; id < p.b.Next(); id++ {
				conjs = append(conjs, p.b.Conjs(id))
			}
		}
		for _, list := range answers {
			rooms = append(rooms, roomOf(list))
		}
		for _, list := range ids {
			rooms = append(rooms, roomOf(list))
		}
		for _, list := range changes {
			rooms = append(rooms, roomOf(list))
		}
		for _, list := range conjs {
			rooms = append(rooms, roomsOf(list)...)
		}
		holdApart(t, rooms)
		for _, list := range answers {
			scribble(list, api.Answer{Code: 7, ID: 7})
		}
		for _, list := range ids {
			scribble(list, 3)
		}
		for _, list := range changes {
			scribble(list, unsubbed(1))
		}
		for _, list := range conjs {
			scribbleConjs(list)
		}
		p.hold()
		for _, event := range events() {
			p.do(match(event...))
		}
		switch round {
		case 0:
			p.do(replace(1, `!(a {1, 2} & c {"xy"} & !b {5, 9})`), unsub(3))
		case 1:
			p.apply(api.OK, subbed(9, `b {5, 5} & !c {"z", "y"}`))
		case 2:
			p.do(sub("a {1, 2, 3}"), unsub(2))
		}
	}
}

// Rule 5: what was answered stays, whatever becomes of the book.
func TestAnswersStay(t *testing.T) {
	p := newPair(t, most)
	p.do(sub("a {1} | !b {2, 1}"), sub("a {1, 2}"), sub("!a {1}"))
	row, ids, changes, conjs := p.b.Do(match(number("a", 1)), match()), p.b.IDs(), p.b.Changes(), p.b.Conjs(1)
	for i, text := range texts() {
		p.do(replace(1+i%3, text), sub(text), match(number("a", 2)), unsub(i+3))
	}
	if !slices.EqualFunc(row, []api.Answer{met(1, 2), met(1, 3)}, sameAnswer) || !slices.Equal(ids, []int{1, 2, 3}) || !slices.Equal(changes, []api.Change{subbed(1, "a {1} | !b {2, 1}"), subbed(2, "a {1, 2}"), subbed(3, "!a {1}")}) {
		t.Errorf("answered were %v, %v, %v", row, ids, changes)
	}
	want := []api.Conj{{Pos: []api.Pred{{Kind: api.PredInts, Attr: "a", Ints: []int{1}}}}, {Neg: []api.Pred{{Kind: api.PredInts, Attr: "b", Ints: []int{1, 2}}}}}
	if !slices.EqualFunc(conjs, want, sameConj) {
		t.Errorf("answered was %v", conjs)
	}
}

// heap is how much is in use behind all that is no longer needed.
func heap() uint64 {
	runtime.GC()
	runtime.GC()
	var m runtime.MemStats
	runtime.ReadMemStats(&m)
	return m.HeapAlloc
}

// Rule 5: a text that is a piece of a longer one doesn't keep that one.
func TestTextsAreNotKept(t *testing.T) {
	b := book.New(most, attributes(t))
	// Each time another one, so that none is the same memory.
	piece := func(i int) string {
		whole := "a {" + strconv.Itoa(i) + `} | c {"x"}` + strings.Repeat(" ", 1<<20)
		return whole[:strings.IndexByte(whole, '|')+9]
	}
	before := heap()
	for i := 1; i <= 20; i++ {
		if got := b.Do(sub(piece(i)), replace(i, piece(i+1))); !slices.EqualFunc(got, []api.Answer{given(i), done}, sameAnswer) {
			t.Fatalf("answered is %v", got)
		}
	}
	for i := 21; i <= 40; i++ {
		if e := b.Apply(subbed(i, piece(i)), replaced(i-20, piece(i))); e != api.OK {
			t.Fatal(e)
		}
	}
	if after := heap(); after > before+1<<20 {
		t.Errorf("%d bytes are kept", after-before)
	}
	if text, ok := b.Text(40); text != `a {40} | c {"x"}` || !ok || b.Subs() != 40 {
		t.Errorf("Text = %q, %v", text, ok)
	}
}

// Rule 5: of what was replaced or went, and of what was refused, nothing is kept.
func TestGoneIsNotKept(t *testing.T) {
	b := book.New(most, attributes(t))
	b.Do(sub("a {1}"))
	before := heap()
	big := func(i int) string { return strings.Repeat("a {"+strconv.Itoa(i)+"} & ", 400) + "b {1}" }
	next := 2
	for round := range 3 {
		for range 300 {
			if got := b.Do(sub(big(next)), replace(next, big(next)+" "), sub(big(next)+" &")); got[0].ID != next || got[1].Code != api.OK || got[2].Code != api.ErrSyntax {
				t.Fatalf("answered is %v", got)
			}
			next++
		}
		ids := b.IDs()[1:]
		if round%2 == 0 {
			slices.Reverse(ids)
		}
		for _, id := range ids {
			if got := b.Do(unsub(id))[0]; got.Code != api.OK {
				t.Fatalf("answered is %v", got)
			}
		}
	}
	if after := heap(); after > before+1<<19 {
		t.Errorf("%d bytes are kept", after-before)
	}
	if got := b.Do(match(number("a", 1)))[0]; !sameAnswer(got, met(1)) || b.Subs() != 1 || b.Total() != 1 {
		t.Errorf("answered is %v", got)
	}
}
