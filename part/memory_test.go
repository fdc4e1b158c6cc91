package part_test

import (
	"reflect"
	"runtime"
	"slices"
	"testing"
	"unsafe"

	"trommel/api"
	"trommel/part"
)

// roomy is a conjunction whose lists all have spare room, and those rooms whole.
func roomy() (api.Conj, [][]api.Pred, [][]int, [][]string) {
	xs := []int{5, 6, 90, 91}
	more := []int{5, 7, 92}
	ws := []string{"x", "xy", "spare", "room"}
	pre := []string{"x", "spare"}
	pos := []api.Pred{{Kind: api.PredInts, Attr: "a", Ints: xs[:2]}, {Kind: api.PredWords, Attr: "c", Words: ws[:2]}, ints("spare", 90), ints("room", 91)}
	neg := []api.Pred{{Kind: api.PredInts, Attr: "a", Ints: more[:2]}, {Kind: api.PredPrefix, Attr: "d", Words: pre[:1]}, ints("spare", 92)}
	return api.Conj{Pos: pos[:2], Neg: neg[:2]}, [][]api.Pred{pos, neg}, [][]int{xs, more}, [][]string{ws, pre}
}

// Rule 5: a conjunction that is handed in stays as it was, the spare room too, and isn't kept.
func TestConjHandedInIsLeft(t *testing.T) {
	c, preds, xs, ws := roomy()
	_, samePreds, sameXs, sameWs := roomy()
	x, other := newPair(t), newPair(t)
	x.add(7, c)
	x.add(8, c)
	other.add(7, copied(c))
	other.add(8, copied(c))
	events := [][]api.Pair{{number("a", 6), word("c", "xy")}, {number("a", 5), word("c", "x"), word("d", "xx")}, {number("a", 77), word("c", "scribble")}}
	x.hold(events...)
	x.drop(7)
	x.compact()
	x.add(7, c)
	other.drop(7)
	other.compact()
	other.add(7, copied(c))
	if !reflect.DeepEqual(preds, samePreds) || !slices.EqualFunc(xs, sameXs, slices.Equal[[]int]) || !slices.EqualFunc(ws, sameWs, slices.Equal[[]string]) {
		t.Fatalf("handed in was changed: %v, %v, %v", preds, xs, ws)
	}
	for _, list := range xs {
		for i := range list {
			list[i] = 77
		}
	}
	for _, list := range ws {
		for i := range list {
			list[i] = "scribble"
		}
	}
	for _, list := range preds {
		for i := range list {
			list[i] = ints("scribble", 77)
		}
	}
	hold(t, x.p, other.s, append(events, []api.Pair{number("scribble", 77)})...)
	x.p.Drop(8)
	other.s.drop(8)
	x.p.Compact()
	other.s.compact()
	hold(t, x.p, other.s, events...)
}

// Rule 5: numbers and events that are handed in stay as they were, the spare room too, and aren't kept.
func TestNumbersAndEventsHandedInAreLeft(t *testing.T) {
	x := example(t)
	given := []int{9, 2, 2, 1, 3}
	ids := slices.Clone(given)
	if x.p.Drop(ids[:3]...) != 1 || !slices.Equal(ids, given) {
		t.Errorf("the numbers are now %v", ids)
	}
	x.s.drop(2)
	for i := range ids {
		ids[i] = 1
	}
	pairs := []api.Pair{word("c", "xy"), number("a", 5), number("a", 4), {Name: "b"}, number("a", 9), number("b", 9), number("c", 9)}
	event := slices.Clone(pairs)
	match, trace := x.p.Match(event[:4]), x.p.Trace(event[:4])
	if !slices.Equal(event, pairs) {
		t.Errorf("the event is now %v", event)
	}
	for i := range event {
		event[i] = number("z", 0)
	}
	if want := x.s.trace(pairs[:4]); !slices.Equal(match, []int{1}) || !sameTrace(trace, want) {
		t.Errorf("Match = %v, Trace = %v", match, trace)
	}
	x.hold(exampleEvents()...)
}

// room is where a list lies, its spare room too.
type room struct{ from, to uintptr }

func roomOf[T any](list []T) room {
	from := uintptr(unsafe.Pointer(unsafe.SliceData(list)))
	return room{from, from + uintptr(cap(list))*unsafe.Sizeof(*new(T))}
}

// scribble writes over a list that was answered, behind its end, and appends to it.
func scribble[T any](list []T, with T) {
	_ = append(list, with, with, with)
	list = list[:cap(list)]
	for i := range list {
		list[i] = with
	}
}

// Rule 5: what is answered is new memory: neither the part nor another answer sees what is written there.
func TestAnswersAreNew(t *testing.T) {
	x := example(t)
	x.add(4, made(t, "a {5}"))
	x.add(5, always)
	x.add(6, made(t, "!a {5} & !c {\"y\"}"))
	event := []api.Pair{number("a", 5), word("c", "xy")}
	for round := range 4 {
		var rooms []room
		var matches [][]int
		var posts [][]api.Post
		var traces []api.Trace
		for range 3 {
			matches = append(matches, x.p.Match(event))
			traces = append(traces, x.p.Trace(event))
			posts = append(posts, x.p.Posts(0, intKey("a", 5)), x.p.Posts(0, zeroKey), x.p.Posts(1, intKey("a", 5)))
		}
		rooms = append(rooms, roomOf(event))
		for i := range 3 {
			rooms = append(rooms, roomOf(matches[i]), roomOf(traces[i].Lists), roomOf(traces[i].Judged))
		}
		for _, list := range posts {
			rooms = append(rooms, roomOf(list))
		}
		for i, a := range rooms {
			for _, b := range rooms[:i] {
				if a.from < b.to && b.from < a.to {
					t.Fatal("two lists share memory")
				}
			}
		}
		keep := [][]int{slices.Clone(matches[1]), slices.Clone(traces[1].Judged)}
		keepLists, keepPosts := slices.Clone(traces[1].Lists), slices.Clone(posts[3])
		for i := range 3 {
			if i == 1 {
				continue
			}
			scribble(matches[i], 3)
			scribble(traces[i].Judged, 9)
			scribble(traces[i].Lists, api.Opened{Part: 7, Key: zeroKey, Posts: 7})
			for _, list := range posts[i*3 : i*3+3] {
				scribble(list, out(2))
			}
		}
		if !slices.Equal(matches[1], keep[0]) || !slices.Equal(traces[1].Judged, keep[1]) || !slices.Equal(traces[1].Lists, keepLists) || !slices.Equal(posts[3], keepPosts) {
			t.Fatal("an answer sees what is written into another one")
		}
		x.hold(event, exampleEvents()[2])
		// Some are dead, then they go, then another comes.
		switch round {
		case 0:
			x.drop(3, 4)
		case 1:
			x.compact()
		case 2:
			x.add(9, made(t, "a {5} & !a {5}"))
		}
	}
}

// Rule 5: what was answered stays, whatever becomes of the part.
func TestAnswersStay(t *testing.T) {
	x := example(t)
	event := exampleEvents()[0]
	match, trace, posts := x.p.Match(event), x.p.Trace(event), x.p.Posts(0, zeroKey)
	keep := api.Trace{Lists: slices.Clone(trace.Lists), Judged: slices.Clone(trace.Judged)}
	for id := 4; id < 40; id++ {
		x.add(id, made(t, []string{"a {5}", "!a {5}", "a {5} & c \"x\"*", "a [0, 7]"}[id%4]))
		x.drop(id/2, 1)
		if id%5 == 0 {
			x.compact()
		}
	}
	if !slices.Equal(match, []int{1, 2}) || !sameTrace(trace, keep) || !slices.Equal(posts, []api.Post{in(3)}) {
		t.Errorf("answered were %v, %v, %v", match, trace, posts)
	}
	x.hold(event)
}

// heap is how much is in use behind all that is no longer needed.
func heap() uint64 {
	runtime.GC()
	runtime.GC()
	var m runtime.MemStats
	runtime.ReadMemStats(&m)
	return m.HeapAlloc
}

// P14.1: behind Compact the dead ones are gone, with all their posts: the room that they had is free.
func TestCompactFrees(t *testing.T) {
	p := part.New()
	p.Add(1<<40, api.Conj{Pos: []api.Pred{ints("a", 5)}})
	before := heap()
	for round := range 3 {
		for id := 1; id <= 4000; id++ {
			c := api.Conj{Neg: []api.Pred{ints("b", id*16+round, id*16+8)}}
			if id%2 == 0 {
				c.Pos = []api.Pred{ints("a", id*8, id*8+1, id*8+2), span("c", id, id*3+7)}
			}
			if e := p.Add(id, c); e != api.OK {
				t.Fatal(e)
			}
		}
		for id := 1; id <= 4000; id++ {
			p.Drop(id)
		}
		if p.Compact() != 4000 || p.Live() != 1 {
			t.Fatal("not all go")
		}
	}
	if after := heap(); after > before+1<<20 {
		t.Errorf("%d bytes are kept", after-before)
	}
	if !slices.Equal(p.Match([]api.Pair{number("a", 5)}), []int{1 << 40}) {
		t.Error("the one that is left doesn't match")
	}
}
