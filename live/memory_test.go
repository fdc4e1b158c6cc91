package live_test

import (
	"reflect"
	"runtime"
	"strings"
	"testing"
	"unsafe"

	"trommel/api"
	"trommel/live"
)

// roomy are calls of every kind with spare room behind them, whose events have some too, and those rooms whole.
func roomy() ([]api.Call, [][]api.Pair) {
	rooms := [][]api.Pair{
		{word("c", "xy"), number("b", 2), number("a", 1), number("spare", 90), number("room", 91)},
		{number("b", 2), number("b", 1), number("spare", 92)},
		{number("a", 2), number("spare", 93)},
	}
	calls := []api.Call{
		sub(`a {1} & c "x"*`), sub("b {2} | a {9}"), match(rooms[0][:3]...), replace(2, "!b {2}"), match(rooms[1][:2]...), {Change: api.Change{Kind: api.Unsub, ID: 1, Text: "x"}, Event: rooms[0][:3]}, match(rooms[2][:1]...), match(rooms[0][:3]...), sub("a {2"), {},
		{Change: api.Change{Kind: api.Sub, ID: 7, Text: "a {2}"}, Event: rooms[2][:1]}, sub("spare {1}"), unsub(2),
	}
	return calls, rooms
}

// Rule 5: calls that are handed in stay as they were, the spare room too.
func TestCallsHandedInAreLeft(t *testing.T) {
	s := attributes(t)
	for _, c := range configs(most, false) {
		calls, rooms := roomy()
		same, sameRooms := roomy()
		used := len(calls) - 2
		got := live.Serve(c, s, calls[:used]...)
		if !reflect.DeepEqual(calls, same) || !reflect.DeepEqual(rooms, sameRooms) {
			t.Fatalf("handed in was changed: %v, %v", calls, rooms)
		}
		for _, list := range rooms {
			for i := range list {
				list[i] = number("scribble", 77)
			}
		}
		for i := range calls {
			calls[i] = sub("scribble {77}")
		}
		if want := wantServe(c, s, same[:used]); !sameAnswers(got, want) {
			t.Fatalf("answered is %v, not %v", got, want)
		}
	}
}

// handed are subscriptions and events with spare room behind every list.
type handed struct {
	subs   [][]api.Conj
	events [][]api.Pair
	conjs  []api.Conj
	pairs  []api.Pair
	preds  [][]api.Pred
	xs     [][]int
	ws     [][]string
}

func newHanded() handed {
	xs, more := []int{5, 6, 90, 91}, []int{5, 7, 92}
	ws, begin := []string{"x", "xy", "spare", "room"}, []string{"x", "spare"}
	pos := []api.Pred{{Kind: api.PredInts, Attr: "a", Ints: xs[:2]}, {Kind: api.PredWords, Attr: "c", Words: ws[:2]}, ints("spare", 90), ints("room", 91)}
	neg := []api.Pred{{Kind: api.PredInts, Attr: "a", Ints: more[:2]}, {Kind: api.PredPrefix, Attr: "d", Words: begin[:1]}, ints("spare", 92)}
	conjs := []api.Conj{{Pos: pos[:2], Neg: neg[:2]}, {Neg: neg[:1]}, {Pos: pos[:1]}, {Pos: pos[2:3]}, never}
	pairs := []api.Pair{word("c", "xy"), number("a", 6), number("a", 5), {Name: "b"}, number("spare", 90), number("room", 91)}
	subs := [][]api.Conj{conjs[:3], conjs[:1], conjs[1:3], conjs[:4], {badConjs()[0], always}, conjs[4:]}
	events := [][]api.Pair{pairs[:4], pairs[1:2], pairs[:1], pairs[2:3], pairs[4:5]}
	return handed{subs, events, conjs, pairs, [][]api.Pred{pos, neg}, [][]int{xs, more}, [][]string{ws, begin}}
}

// write writes over all of it.
func (h handed) write() {
	for _, list := range h.xs {
		scribble(list, 77)
	}
	for _, list := range h.ws {
		scribble(list, "scribble")
	}
	for _, list := range h.preds {
		scribble(list, ints("scribble", 77))
	}
	scribble(h.conjs, always)
	scribble(h.pairs, number("scribble", 77))
	scribble(h.subs, []api.Conj{always})
	scribble(h.events, nil)
}

// Rule 5: subscriptions and events that are handed in stay as they were, the spare room too.
func TestListsHandedInAreLeft(t *testing.T) {
	for _, shards := range counts() {
		h, same := newHanded(), newHanded()
		want := wantFan(same.subs[:4], same.events[:4])
		got := live.Fan(shards, h.subs[:4], h.events[:4]...)
		if !reflect.DeepEqual(h, same) {
			t.Fatalf("handed in was changed: %v", h)
		}
		h.write()
		if !sameLists(got, want) {
			t.Fatalf("answered is %v, not %v", got, want)
		}
	}
}

// room is where a list lies, its spare room too.
type room struct{ from, to uintptr }

func roomOf[T any](list []T) room {
	from := uintptr(unsafe.Pointer(unsafe.SliceData(list)))
	return room{from, from + uintptr(cap(list))*unsafe.Sizeof(*new(T))}
}

// holdApart holds that no two rooms have anything together.
func holdApart(t *testing.T, rooms []room) {
	t.Helper()
	for i, a := range rooms {
		for _, b := range rooms[:i] {
			if a.from < b.to && b.from < a.to {
				t.Fatal("two lists share memory")
			}
		}
	}
}

// scribble writes over a list, behind its end, and appends to it.
func scribble[T any](list []T, with T) {
	_ = append(list, with, with, with)
	list = list[:cap(list)]
	for i := range list {
		list[i] = with
	}
}

// Rule 5: what Serve answers is new memory: no two lists share any, nor do they with what was handed in, nor with another answer.
func TestAnswersAreNew(t *testing.T) {
	s := attributes(t)
	event := []api.Pair{word("c", "xy"), number("b", 5), number("a", 1)}
	calls := []api.Call{sub("!b {2}"), sub(`a {1} | c "x"*`), sub("a {1}"), match(event...), match(event...), match(), match(), unsub(9), match(number("z", 1)), match(event...)}
	want := wantServe(config(most, 1, 1), s, calls)
	for _, c := range configs(most, false) {
		rooms := []room{roomOf(event), roomOf(calls)}
		var rows [][]api.Answer
		for range 3 {
			answers := live.Serve(c, s, calls...)
			rows, rooms = append(rows, answers), append(rooms, roomOf(answers))
			for _, a := range answers {
				rooms = append(rooms, roomOf(a.IDs))
			}
		}
		holdApart(t, rooms)
		for _, a := range rows[0] {
			scribble(a.IDs, 77)
		}
		scribble(rows[0], api.Answer{Code: 7, ID: 7, IDs: []int{7}})
		if !sameAnswers(rows[1], want) || !sameAnswers(rows[2], want) || !sameAnswers(live.Serve(c, s, calls...), want) {
			t.Fatalf("answered is %v now", rows[1:])
		}
	}
}

// Rule 5: so is what Fan answers.
func TestListsAreNew(t *testing.T) {
	subs := [][]api.Conj{{always}, {must(ints("a", 1)), must(ints("b", 5))}, {never}, {mustNot(ints("a", 2))}}
	event := []api.Pair{number("b", 5), number("a", 1)}
	list := [][]api.Pair{event, event, nil, {{}}, event}
	want := wantFan(subs, list)
	for _, shards := range counts() {
		rooms := []room{roomOf(event), roomOf(list), roomOf(subs)}
		var rows [][][]int
		for range 3 {
			lists := live.Fan(shards, subs, list...)
			rows, rooms = append(rows, lists), append(rooms, roomOf(lists))
			for _, ids := range lists {
				rooms = append(rooms, roomOf(ids))
			}
		}
		holdApart(t, rooms)
		for _, ids := range rows[0] {
			scribble(ids, 77)
		}
		scribble(rows[0], []int{7})
		if !sameLists(rows[1], want) || !sameLists(rows[2], want) || !sameLists(live.Fan(shards, subs, list...), want) {
			t.Fatalf("answered is %v now", rows[1:])
		}
	}
}

// Rule 5: nothing of what was handed in, nor of what was made on the way, is kept behind the call.
func TestNothingIsKept(t *testing.T) {
	s := attributes(t)
	heap := func() uint64 {
		runtime.GC()
		runtime.GC()
		var m runtime.MemStats
		runtime.ReadMemStats(&m)
		return m.HeapAlloc
	}
	before := heap()
	var answers [][]api.Answer
	var lists [][][]int
	for range 10 {
		// Pieces of longer texts, each time other ones.
		piece := func(text string) string { return (text + strings.Repeat(" ", 1<<20))[:len(text)] }
		answers = append(answers, live.Serve(config(most, 3, 2), s, sub(piece("a {1}")), sub(piece(`c {"x"}`)), match(word(piece("c"), piece("x"))), match(make([]api.Pair, 1<<15)...), sub(wide(64))))
		lists = append(lists, live.Fan(3, [][]api.Conj{{must(ints(piece("a"), 1))}, {must(words("c", piece("x")))}, nil}, []api.Pair{word(piece("c"), piece("x"))}, make([]api.Pair, 1<<15)))
	}
	if after := heap(); after > before+1<<20 {
		t.Errorf("%d bytes are kept", after-before)
	}
	runtime.KeepAlive(answers)
	runtime.KeepAlive(lists)
	runtime.KeepAlive(s)
}
