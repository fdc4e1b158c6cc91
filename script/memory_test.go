package script_test

import (
	"reflect"
	"runtime"
	"strings"
	"testing"
	"unsafe"

	"trommel/api"
	"trommel/script"
)

// roomy is a script with spare room behind every list, and those rooms whole.
type roomy struct {
	s     api.Script
	attrs []api.Attr
	ops   []api.Op
	pairs []api.Pair
	nums  []int
}

func newRoomy() roomy {
	attrs := []api.Attr{intAttr("b"), wordAttr("a"), intAttr("spare"), {}}
	pairs := []api.Pair{word("c", "xy"), number("b", 2), word("c", ""), number("spare", 90), {}}
	nums := []int{5, -6, 90, 91}
	ops := []api.Op{
		call(0, match(pairs[:3]...)), {Kind: api.OpStep, Nums: nums[:2]}, {Kind: api.OpArm, Nums: nums[:2]}, {Kind: api.OpCrash, Nums: nums[:0]}, call(1, match(pairs[:0]...)), {Kind: api.OpDrain, Nums: nums[:0]}, call(1, match(pairs[1:2]...)),
		{Kind: 99}, call(9, sub("spare")),
	}
	return roomy{api.Script{Attrs: attrs[:2], Ops: ops[:7]}, attrs, ops, pairs, nums}
}

// Rule 5: what is handed in stays as it was, the spare room too.
func TestHandedInIsLeft(t *testing.T) {
	r, like := newRoomy(), newRoomy()
	hold := func() {
		t.Helper()
		if !reflect.DeepEqual(r, like) {
			t.Fatalf("handed in was changed: %v", r)
		}
	}
	text, e := script.Text(r.s)
	if text != wantText(like.s) || e != api.OK {
		t.Fatalf("Text = %q, %d", text, e)
	}
	hold()
	script.Same(r.s, r.s)
	script.Same(r.s, api.Script{})
	hold()
	for _, o := range r.ops {
		script.Op(o)
		hold()
	}
	// With an error too.
	if _, e := script.Text(api.Script{Attrs: r.attrs, Ops: r.ops}); e != api.ErrForm {
		t.Error(e)
	}
	if _, e := script.Text(api.Script{Ops: r.ops}); e != api.ErrForm {
		t.Error(e)
	}
	hold()
	// What was answered is the same, whatever is written where it came from.
	scribble(r.nums, 77)
	scribble(r.pairs, number("scribble", 77))
	scribble(r.attrs, intAttr("scribble"))
	scribble(r.ops, api.Op{})
	if text != wantText(like.s) {
		t.Errorf("the text is %q now", text)
	}
}

// room is where a list lies, its spare room too.
type room struct{ from, to uintptr }

func roomOf[T any](list []T) room {
	from := uintptr(unsafe.Pointer(unsafe.SliceData(list)))
	return room{from, from + uintptr(cap(list))*unsafe.Sizeof(*new(T))}
}

func textRoom(text string) room {
	from := uintptr(unsafe.Pointer(unsafe.StringData(text)))
	return room{from, from + uintptr(len(text))}
}

func (a room) shares(b room) bool { return a.from < b.to && b.from < a.to }

// holdApart holds that no two rooms have anything together.
func holdApart(t *testing.T, rooms []room) {
	t.Helper()
	for i, a := range rooms {
		for _, b := range rooms[:i] {
			if a.shares(b) {
				t.Fatal("two lists share memory")
			}
		}
	}
}

// scribble writes over a list, behind its end, and appends to it.
func scribble[T any](list []T, with T) {
	_ = append(list, with, with, with)
	list = list[:cap(list)]
	for i := range list {
		list[i] = with
	}
}

// roomsOf are those of all lists of a script, and of all its texts.
func roomsOf(s api.Script) (lists, texts []room) {
	lists = append(lists, roomOf(s.Attrs), roomOf(s.Ops))
	for _, a := range s.Attrs {
		texts = append(texts, textRoom(a.Name))
	}
	for _, o := range s.Ops {
		lists = append(lists, roomOf(o.Nums), roomOf(o.Call.Event))
		texts = append(texts, textRoom(o.Call.Text))
		for _, p := range o.Call.Event {
			texts = append(texts, textRoom(p.Name), textRoom(p.Word))
		}
	}
	return lists, texts
}

// long is a text of a script that has every kind of list, several times.
func long() string {
	return "config 9 9 9 9 2 1 1 2\nattr abc int\nattr def word\n" + strings.Repeat("call 0 sub \"abc {1}\"\ncall 1 replace 2 \"def \\\"x y\\\"*\"\ncall 1 match abc=1 def=\"x y\" abc=2\nstep 0 -1 7\narm 1 2\ncrash 3 4 5\ncrash\ndrain\n", 3)
}

// Rule 5: what Parse answers is new memory: no two lists share any, nor do those of two answers; the texts are no pieces of the one that was handed in.
func TestParsedIsNew(t *testing.T) {
	text := long()
	var all []room
	var scripts []api.Script
	for range 3 {
		s, _, e := script.Parse(text)
		if e != api.OK {
			t.Fatal(e)
		}
		lists, texts := roomsOf(s)
		all, scripts = append(all, lists...), append(scripts, s)
		for _, r := range texts {
			if r.shares(textRoom(text)) {
				t.Fatal("a text of the answer is a piece of the one that was handed in")
			}
		}
	}
	holdApart(t, all)
	first := scripts[0]
	for _, o := range first.Ops {
		scribble(o.Nums, 77)
		scribble(o.Call.Event, number("scribble", 77))
	}
	scribble(first.Attrs, intAttr("scribble"))
	scribble(first.Ops, api.Op{Kind: 77})
	again, _, _ := script.Parse(text)
	for _, s := range append(scripts[1:], again) {
		if back, e := script.Text(s); back != text || e != api.OK {
			t.Fatalf("the answer is %q now", back)
		}
	}
}

// Rule 5: what Text and Op answer is no piece of what was handed in.
func TestWrittenIsNew(t *testing.T) {
	s, _, e := script.Parse(long())
	if e != api.OK {
		t.Fatal(e)
	}
	_, texts := roomsOf(s)
	first, _ := script.Text(s)
	second, _ := script.Text(s)
	rooms := []room{textRoom(first), textRoom(second)}
	for _, o := range s.Ops {
		if o.Kind == api.OpCall {
			line, _ := script.Op(o)
			rooms = append(rooms, textRoom(line))
		}
	}
	holdApart(t, rooms)
	for _, a := range rooms {
		for _, b := range texts {
			if a.shares(b) {
				t.Fatal("what is written shares memory with the script")
			}
		}
	}
}

// Rule 5: a script doesn't keep the text that it was read from, nor does one that was refused.
func TestTextIsNotKept(t *testing.T) {
	heap := func() uint64 {
		runtime.GC()
		runtime.GC()
		var m runtime.MemStats
		runtime.ReadMemStats(&m)
		return m.HeapAlloc
	}
	before := heap()
	var kept []api.Script
	for i := range 10 {
		// Most of each text is no part of the script that is kept of it.
		text := head + "attr abc int\ncall 0 match abc=1 def=\"x\"\ncall 0 sub \"abc {1}\"\nstep" + strings.Repeat(" 1", 1<<18) + "\n"
		if i%2 == 0 {
			text += "x"
		}
		s, _, _ := script.Parse(text)
		if len(s.Ops) > 0 {
			s.Ops = append([]api.Op{}, s.Ops[:2]...)
		}
		kept = append(kept, s)
	}
	if after := heap(); after > before+1<<19 {
		t.Errorf("%d bytes are kept", after-before)
	}
	runtime.KeepAlive(kept)
}

// Rule 6: what Parse answers hangs on its text alone, not on what was parsed ahead.
func TestEachByItself(t *testing.T) {
	for range 3 {
		if got := parses(t, head+"attr a int\n"); got != 0 {
			t.Errorf("line %d", got)
		}
		wrong(t, head+"attr a int\nattr a int\n", 3)
		if got := parses(t, long()); got != 0 {
			t.Errorf("line %d", got)
		}
	}
}
