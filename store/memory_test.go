package store_test

import (
	"reflect"
	"runtime"
	"slices"
	"strconv"
	"strings"
	"testing"
	"unsafe"

	"trommel/api"
	"trommel/disk"
	"trommel/store"
)

// roomy are calls of every kind with spare room behind them, whose events have some too, and those rooms whole.
func roomy() ([]api.Call, [][]api.Pair) {
	rooms := [][]api.Pair{
		{word("c", "xy"), number("b", 2), number("a", 1), number("spare", 90), number("room", 91)},
		{number("b", 2), number("b", 1), number("spare", 92)},
		{number("a", 2), number("spare", 93)},
	}
	calls := []api.Call{
		sub(`a {1} & c "x"*`), sub("b {2} | a {9}"), match(rooms[0][:3]...), replace(2, "!b {2}"), match(rooms[1][:2]...), {Change: api.Change{Kind: api.Unsub, ID: 1, Text: "x"}, Event: rooms[0][:3]}, match(rooms[2][:1]...), match(rooms[0][:3]...), sub("a {2"), {},
		{Change: subbed(7, "a {2}"), Event: rooms[2][:1]}, sub("spare {1}"), unsub(2),
	}
	return calls, rooms
}

// Rule 5: calls and events that are handed in stay as they were, the spare room too, and aren't kept; whether the power goes or not.
func TestCallsHandedInAreLeft(t *testing.T) {
	for n := range 4 {
		p := opened(t, most)
		p.arm(n, 20)
		calls, rooms := roomy()
		own, _ := roomy()
		used := len(calls) - 2
		got, want := p.x.Do(calls[:used]...), p.w.do(own[:used]...)
		again := p.x.Do(calls[2], calls[4])
		same, sameRooms := roomy()
		if !reflect.DeepEqual(calls, same) || !reflect.DeepEqual(rooms, sameRooms) {
			t.Fatalf("handed in was changed: %v, %v", calls, rooms)
		}
		for _, list := range rooms {
			for i := range list {
				list[i] = number("scribble", 77)
			}
		}
		for i := range calls {
			calls[i] = sub("scribble {77}")
		}
		if !sameAnswers(got, want) || !sameAnswers(again, p.w.do(own[2], own[4])) {
			t.Fatalf("answered is %v, %v, not %v", got, again, want)
		}
		p.hold()
		if n == 0 || n > 2 {
			p.arm(0, 0)
			p.asks(events())
			p.compact(api.OK)
			p.opensWith(0, api.OK)
			p.asks(events())
		}
		f := p.crash(-1, -1)
		f.open(api.OK)
		f.asks(fewEvents())
	}
}

// Rule 5: so does the event of Opens.
func TestEventHandedInIsLeft(t *testing.T) {
	p := opened(t, most)
	p.do(sub(`a {1} & c "x"* | !b {2}`), sub(`c "xy"*`))
	row := func() []api.Pair {
		return []api.Pair{word("c", "xy"), number("b", 2), number("a", 1), number("a", 1), number("spare", 91)}
	}
	for cut := range 5 {
		event := row()
		got, e := p.x.Opens(event[:cut])
		want, wantE := p.w.opens(row()[:cut])
		if !slices.Equal(event, row()) {
			t.Fatalf("handed in is now %v", event)
		}
		for i := range event {
			event[i] = number("scribble", 77)
		}
		if !slices.Equal(got, want) || e != wantE {
			t.Fatalf("Opens = %v, %d, not %v, %d", got, e, want, wantE)
		}
		p.asks(fewEvents())
	}
}

// room is where a list lies, its spare room too.
type room struct{ from, to uintptr }

func roomOf[T any](list []T) room {
	from := uintptr(unsafe.Pointer(unsafe.SliceData(list)))
	return room{from, from + uintptr(cap(list))*unsafe.Sizeof(*new(T))}
}

// holdApart holds that no two rooms have anything together.
func holdApart(t *testing.T, rooms []room) {
	t.Helper()
	for i, a := range rooms {
		for _, b := range rooms[:i] {
			if a.from < b.to && b.from < a.to {
				t.Fatal("two lists share memory")
			}
		}
	}
}

// scribble writes over a list that was answered, behind its end, and appends to it.
func scribble[T any](list []T, with T) {
	_ = append(list, with, with, with)
	list = list[:cap(list)]
	for i := range list {
		list[i] = with
	}
}

// Rule 5: what is answered is new memory: neither the store nor its disk nor another answer sees what is written there.
func TestAnswersAreNew(t *testing.T) {
	p := opened(t, most)
	p.do(sub(`(a {2, 1} | c {"xy", "x"} | a {1}) & (b {5, 6} | !c "y"*) & !a {7, 8} & a [0, 9]`), sub(`!(a {3, 4} | c "z"*)`), sub("a [5, 3]"), sub("a {1, 2}"))
	event := []api.Pair{word("c", "xy"), number("b", 5), number("a", 1)}
	for round := range 6 {
		rooms := []room{roomOf(event)}
		var answers [][]api.Answer
		var ids [][]int
		var lists [][]api.Opened
		for range 3 {
			row := p.x.Do(match(event...), match(), match(event...), unsub(99))
			other := p.x.Do(match(event...))
			answers = append(answers, row, other, p.x.Do(), p.x.Do(sub("a {")))
			ids = append(ids, p.x.IDs(), row[0].IDs, row[1].IDs, row[2].IDs, row[3].IDs, other[0].IDs)
			for _, event := range [][]api.Pair{event, nil, {number("z", 1)}} {
				opened, _ := p.x.Opens(event)
				lists = append(lists, opened)
			}
		}
		for _, list := range answers {
			rooms = append(rooms, roomOf(list))
		}
		for _, list := range ids {
			rooms = append(rooms, roomOf(list))
		}
		for _, list := range lists {
			rooms = append(rooms, roomOf(list))
		}
		holdApart(t, rooms)
		for _, list := range answers {
			scribble(list, api.Answer{Code: 7, ID: 7})
		}
		for _, list := range ids {
			scribble(list, 3)
		}
		for _, list := range lists {
			scribble(list, zeroList(77))
		}
		p.hold()
		p.asks(events())
		switch round {
		case 0:
			p.do(replace(1, `!(a {1, 2} & c {"xy"} & !b {5, 9})`), unsub(3))
		case 1:
			p.compact(api.OK)
		case 2:
			p.do(sub("a {1, 2, 3}"), unsub(2))
		case 3:
			p.opensWith(0, api.OK)
		case 4:
			p = p.crash(-1)
			p.opensWith(0, api.OK)
		}
	}
	// Of a store that is down too.
	p.arm(1, 0)
	p.do(unsub(1))
	first, second := p.x.Do(match(), unsub(1)), p.x.Do(match(), unsub(1))
	holdApart(t, []room{roomOf(first), roomOf(second)})
	scribble(first, api.Answer{Code: 7, ID: 7})
	if !sameAnswers(second, []api.Answer{code(api.ErrDown), code(api.ErrDown)}) {
		t.Errorf("answered is %v now", second)
	}
	p.isDown()
}

// Rule 5: what was answered stays, whatever becomes of the store and of its disk.
func TestAnswersStay(t *testing.T) {
	p := opened(t, most)
	p.do(sub("a {1} | !b {2, 1}"), sub("a {1, 2}"), sub("!a {1}"))
	row, ids := p.x.Do(match(number("a", 1)), match()), p.x.IDs()
	lists, e := p.x.Opens([]api.Pair{number("a", 1)})
	text, ok := p.x.Text(2)
	for i, other := range texts() {
		p.do(replace(1+i%3, other), sub(other), match(number("a", 2)), unsub(i+3))
		if i%5 == 0 {
			p.compact(api.OK)
		}
	}
	p.crash()
	p.do(unsub(1))
	if !sameAnswers(row, []api.Answer{met(1, 2), met(1, 3)}) || !slices.Equal(ids, []int{1, 2, 3}) || text != "a {1, 2}" || !ok {
		t.Errorf("answered were %v, %v, %q, %v", row, ids, text, ok)
	}
	if want := []api.Opened{zeroList(2), intList(0, "a", 1, 1), intList(1, "a", 1, 2)}; !slices.Equal(lists, want) || e != api.OK {
		t.Errorf("answered was %v, %d", lists, e)
	}
}

// heap is how much is in use behind all that is no longer needed.
func heap() uint64 {
	runtime.GC()
	runtime.GC()
	var m runtime.MemStats
	runtime.ReadMemStats(&m)
	return m.HeapAlloc
}

// Rule 5: a text or a word that is a piece of a longer one doesn't keep that one.
func TestTextsAreNotKept(t *testing.T) {
	d := disk.New()
	x, e := store.Open(most, attributes(t), d)
	if e != api.OK {
		t.Fatal(e)
	}
	// Each time another one, so that none is the same memory.
	piece := func(text string) string { return (text + strings.Repeat(" ", 1<<20))[:len(text)] }
	before := heap()
	for i := 1; i <= 20; i++ {
		text := "a {" + strconv.Itoa(i) + `} | c {"x"} | !c "y"*`
		got := x.Do(sub(piece(text)), replace(i, piece(" "+text)), unsub(99), match(word(piece("c"), piece("x"))), sub(piece(text+" &")))
		if got[0].ID != i || got[1].Code != api.OK || len(got[3].IDs) != i || got[4].Code != api.ErrSyntax {
			t.Fatalf("answered is %v", got)
		}
		if _, e := x.Opens([]api.Pair{word(piece("c"), piece("x"))}); e != api.OK {
			t.Fatal(e)
		}
		if i%7 == 0 && x.Compact() != api.OK {
			t.Fatal("Compact")
		}
	}
	if after := heap(); after > before+1<<20 {
		t.Errorf("%d bytes are kept", after-before)
	}
	if text, ok := x.Text(20); text != ` a {20} | c {"x"} | !c "y"*` || !ok || x.Subs() != 20 {
		t.Errorf("Text = %q, %v", text, ok)
	}
	runtime.KeepAlive(d)
}

// P20.1: with Compact the dead conjunctions go, and the changes that made them.
func TestCompactMakesSmall(t *testing.T) {
	d := disk.New()
	x, e := store.Open(most, attributes(t), d)
	if e != api.OK {
		t.Fatal(e)
	}
	x.Do(sub("a {1}"))
	if e := x.Compact(); e != api.OK {
		t.Fatal(e)
	}
	before := heap()
	for i := range 3000 {
		from := strconv.Itoa(i * 1000)
		text := "(a [" + from + ", 2000000000] | b {" + from + "}) & (c {\"w" + from + "\"} | !d \"w" + from + "\"*)"
		if got := x.Do(sub(text), replace(1, "!a {"+from+"} & !b ["+from+", 2000000000]"), unsub(i+2)); got[0].ID != i+2 || got[1].Code != api.OK || got[2].Code != api.OK {
			t.Fatalf("answered is %v", got)
		}
	}
	grown := heap()
	if grown < before+2<<20 {
		t.Errorf("only %d bytes more: this tells nothing", grown-before)
	}
	if e := x.Compact(); e != api.OK {
		t.Fatal(e)
	}
	if after := heap(); after > before+1<<19 {
		t.Errorf("%d bytes are kept of %d", after-before, grown-before)
	}
	if got := x.Do(match(number("b", 1)))[0]; !sameAnswer(got, met(1)) || x.Subs() != 1 || x.Total() != 1 || x.Next() != 3002 {
		t.Errorf("answered is %v; Subs %d, Total %d, Next %d", got, x.Subs(), x.Total(), x.Next())
	}
	runtime.KeepAlive(d)
}
