package index_test

import (
	"reflect"
	"runtime"
	"slices"
	"testing"
	"unsafe"

	"trommel/api"
	"trommel/index"
)

// handed is a list of conjunctions with spare room, whose lists all have some too, and those rooms whole.
type handed struct {
	conjs []api.Conj
	preds [][]api.Pred
	xs    [][]int
	ws    [][]string
}

func roomy() handed {
	xs, more := []int{5, 6, 90, 91}, []int{5, 7, 92}
	ws, begin := []string{"x", "xy", "spare", "room"}, []string{"x", "spare"}
	pos := []api.Pred{{Kind: api.PredInts, Attr: "a", Ints: xs[:2]}, {Kind: api.PredWords, Attr: "c", Words: ws[:2]}, ints("spare", 90), ints("room", 91)}
	neg := []api.Pred{{Kind: api.PredInts, Attr: "a", Ints: more[:2]}, {Kind: api.PredPrefix, Attr: "d", Words: begin[:1]}, ints("spare", 92)}
	conjs := []api.Conj{{Pos: pos[:2], Neg: neg[:2]}, {Neg: neg[:1]}, {Pos: pos[2:3]}, never}
	return handed{conjs, [][]api.Pred{pos, neg}, [][]int{xs, more}, [][]string{ws, begin}}
}

// write writes over all of it.
func (h handed) write() {
	for _, list := range h.xs {
		for i := range list {
			list[i] = 77
		}
	}
	for _, list := range h.ws {
		for i := range list {
			list[i] = "scribble"
		}
	}
	for _, list := range h.preds {
		for i := range list {
			list[i] = ints("scribble", 77)
		}
	}
	for i := range h.conjs {
		h.conjs[i] = always
	}
}

// Rule 5: conjunctions that are handed in stay as they were, the spare room too, and aren't kept.
func TestConjsHandedInAreLeft(t *testing.T) {
	h, p := roomy(), newPair(t)
	looks := [][]api.Pair{{number("a", 6), word("c", "xy")}, {number("a", 5), word("c", "x"), word("d", "xx")}, {number("a", 6), word("c", "x"), word("d", "y")}, {number("a", 77), word("c", "scribble")}, {number("spare", 90)}, {number("scribble", 77)}}
	// The sheet keeps conjunctions of its own.
	p.put(7, h.conjs[:2]...)
	p.put(8, h.conjs[:1]...)
	p.put(7, h.conjs[:2]...)
	p.put(9, h.conjs[:2]...)
	p.drop(9)
	if !reflect.DeepEqual(h, roomy()) {
		t.Fatalf("handed in was changed: %v", h)
	}
	h.write()
	p.hold(looks...)
	p.compact()
	p.hold(looks...)
	bad := roomy()
	bad.conjs[1] = badConjs()[2]
	same := roomy()
	same.conjs[1] = badConjs()[2]
	if p.put(7, bad.conjs[:2]...) != api.ErrForm || !reflect.DeepEqual(bad, same) {
		t.Errorf("handed in was changed: %v", bad)
	}
	p.hold(looks...)
}

// Rule 5: numbers, events and lists of numbers that are handed in stay as they were, the spare room too, and aren't kept.
func TestNumbersAndEventsHandedInAreLeft(t *testing.T) {
	p := example(t)
	p.put(2, made(t, "a {5}")...)
	given := []int{9, 2, 2, 7, 3}
	ids := slices.Clone(given)
	if p.x.Drop(ids[:3]...) != 1 || !slices.Equal(ids, given) {
		t.Errorf("the numbers are now %v", ids)
	}
	p.s.drop(2)
	for i := range ids {
		ids[i] = 7
	}
	pairs := []api.Pair{word("c", "xy"), number("a", 1), number("a", 4), {Name: "b"}, number("a", 9), number("b", 9), number("c", 9)}
	event := slices.Clone(pairs)
	match, trace := p.x.Match(event[:4]), p.x.Trace(event[:4])
	if !slices.Equal(event, pairs) {
		t.Errorf("the event is now %v", event)
	}
	for i := range event {
		event[i] = number("z", 0)
	}
	if want := p.s.part().Trace(pairs[:4]); !slices.Equal(match, []int{7}) || !sameTrace(trace, want) {
		t.Errorf("Match = %v, Trace = %v", match, trace)
	}
	p.hold(events()...)
	one, two := []int{3, 1, 3, 90}, []int{2, 3, 91}
	lists := [][]int{one[:3], two[:2], nil, {92}}
	got := index.Union(lists[:3]...)
	if !slices.Equal(one, []int{3, 1, 3, 90}) || !slices.Equal(two, []int{2, 3, 91}) || len(lists[0]) != 3 || len(lists[1]) != 2 || !slices.Equal(lists[3], []int{92}) {
		t.Errorf("the lists are now %v, %v, %v", one, two, lists)
	}
	for i := range two {
		one[i], two[i] = 77, 77
	}
	if !slices.Equal(got, []int{1, 2, 3}) {
		t.Errorf("Union = %v", got)
	}
}

// room is where a list lies, its spare room too.
type room struct{ from, to uintptr }

func roomOf[T any](list []T) room {
	from := uintptr(unsafe.Pointer(unsafe.SliceData(list)))
	return room{from, from + uintptr(cap(list))*unsafe.Sizeof(*new(T))}
}

// scribble writes over a list that was answered, behind its end, and appends to it.
func scribble[T any](list []T, with T) {
	_ = append(list, with, with, with)
	list = list[:cap(list)]
	for i := range list {
		list[i] = with
	}
}

// Rule 5: what is answered is new memory: neither the index nor another answer sees what is written there.
func TestAnswersAreNew(t *testing.T) {
	p := example(t)
	p.put(4, made(t, "a {5} | a {1} | !c {\"y\"}")...)
	event := []api.Pair{number("a", 1), word("c", "xy")}
	for round := range 4 {
		var lists [][]int
		var opens [][]api.Opened
		for range 3 {
			trace := p.x.Trace(event)
			lists = append(lists, p.x.IDs(), p.x.Numbers(7), p.x.Numbers(4), p.x.Numbers(99), p.x.Match(event), p.x.Match(nil), trace.Judged)
			opens = append(opens, trace.Lists)
		}
		rooms := []room{roomOf(event)}
		for _, list := range lists {
			rooms = append(rooms, roomOf(list))
		}
		for _, list := range opens {
			rooms = append(rooms, roomOf(list))
		}
		holdApart(t, rooms)
		third := len(lists) / 3
		var keep [][]int
		for _, list := range lists[third : 2*third] {
			keep = append(keep, slices.Clone(list))
		}
		keepOpens := slices.Clone(opens[1])
		for i, list := range lists {
			if i/third != 1 {
				scribble(list, 3)
			}
		}
		scribble(opens[0], api.Opened{Part: 7, Key: zeroKey, Posts: 7})
		scribble(opens[2], api.Opened{Part: 7, Key: zeroKey, Posts: 7})
		if !slices.EqualFunc(lists[third:2*third], keep, slices.Equal[[]int]) || !slices.Equal(opens[1], keepOpens) {
			t.Fatal("an answer sees what is written into another one")
		}
		p.hold(append(events(), event)...)
		// One is replaced, the dead go, another comes.
		switch round {
		case 0:
			p.put(7, made(t, "a {1} | c \"x\"*")...)
		case 1:
			p.compact()
		case 2:
			p.put(9, made(t, "a {1} & !a {5}")...)
		}
	}
}

// holdApart holds that no two rooms have anything together.
func holdApart(t *testing.T, rooms []room) {
	t.Helper()
	for i, a := range rooms {
		for _, b := range rooms[:i] {
			if a.from < b.to && b.from < a.to {
				t.Fatal("two lists share memory")
			}
		}
	}
}

// Rule 5: what Union answers is new memory, of one list too, and of one that rises.
func TestUnionIsNew(t *testing.T) {
	for _, lists := range [][][]int{{{1, 2, 3}}, {{3, 2, 1, 1}}, {nil, {1, 2}}, {{1, 2}, {}}, {{1}, {2}, {3}}, {make([]int, 0, 8), {4}}, {make([]int, 0, 8)}} {
		keep := make([][]int, len(lists))
		var rooms []room
		for i, list := range lists {
			keep[i] = slices.Clone(list)
			rooms = append(rooms, roomOf(list))
		}
		one, two := index.Union(lists...), index.Union(lists...)
		holdApart(t, append(rooms, roomOf(one), roomOf(two)))
		want := slices.Clone(two)
		scribble(one, 99)
		if !slices.Equal(two, want) || !slices.EqualFunc(lists, keep, slices.Equal[[]int]) {
			t.Errorf("what is written into an answer is seen: %v, %v", two, lists)
		}
	}
}

// Rule 5: what was answered stays, whatever becomes of the index.
func TestAnswersStay(t *testing.T) {
	p := example(t)
	event := []api.Pair{number("a", 1)}
	ids, numbers, match, trace := p.x.IDs(), p.x.Numbers(7), p.x.Match(event), p.x.Trace(event)
	keep := api.Trace{Lists: slices.Clone(trace.Lists), Judged: slices.Clone(trace.Judged)}
	for id := 1; id < 40; id++ {
		p.put(id, made(t, []string{"a {1} | a {2}", "!a {1}", "a {1} & c \"x\"*", "a [0, 7]"}[id%4])...)
		p.drop(id/2, 7)
		if id%5 == 0 {
			p.compact()
		}
	}
	if !slices.Equal(ids, []int{3, 7}) || !slices.Equal(numbers, []int{1, 2}) || !slices.Equal(match, []int{7}) || !sameTrace(trace, keep) {
		t.Errorf("answered were %v, %v, %v, %v", ids, numbers, match, trace)
	}
	p.hold(event)
}

// heap is how much is in use behind all that is no longer needed.
func heap() uint64 {
	runtime.GC()
	runtime.GC()
	var m runtime.MemStats
	runtime.ReadMemStats(&m)
	return m.HeapAlloc
}

// P15.1: behind Compact nothing is left of what was replaced or dropped: the room that it had is free.
func TestCompactFrees(t *testing.T) {
	x := index.New()
	x.Put(1<<40, api.Conj{Pos: []api.Pred{ints("a", 5)}})
	before := heap()
	const count = 20000
	for round := range 3 {
		for id := 1; id <= count; id++ {
			if e := x.Put(id, api.Conj{Neg: []api.Pred{ints("b", id*16+round)}}, api.Conj{Pos: []api.Pred{ints("a", id*8)}}, never); e != api.OK {
				t.Fatal(e)
			}
		}
		for id := 1; id <= count; id++ {
			if id%2 == 0 {
				x.Put(id)
			}
			x.Drop(id)
		}
		if x.Compact() != 3*count || x.Subs() != 1 || x.Conjs() != 1 {
			t.Fatal("not all go")
		}
	}
	if after := heap(); after > before+1<<19 {
		t.Errorf("%d bytes are kept", after-before)
	}
	if !slices.Equal(x.Match([]api.Pair{number("a", 5)}), []int{1 << 40}) {
		t.Error("the one that is left doesn't match")
	}
}
