package journal_test

import (
	"runtime"
	"slices"
	"strings"
	"testing"
	"unsafe"

	"trommel/api"
	"trommel/disk"
	"trommel/journal"
)

// Rule 5: changes that are handed in stay as they were, the spare room too, and neither journal nor disk sees what becomes of them.
func TestChangesHandedInAreLeft(t *testing.T) {
	calls := []func(p *pair, changes []api.Change) api.Errno{
		func(p *pair, changes []api.Change) api.Errno { return p.append(changes...) },
		func(p *pair, changes []api.Change) api.Errno { return p.rewrite(9, changes...) },
		func(p *pair, changes []api.Change) api.Errno { return p.rewrite(0, changes...) },
	}
	row := several()
	for _, given := range [][]api.Change{row, append(several(), api.Change{}), row[:0], row[:1]} {
		for n := range 5 {
			for _, call := range calls {
				p := opened(t)
				p.ok(p.append(row[0]))
				p.arm(n, 20)
				room := slices.Concat(given, []api.Change{unsubbed(90), unsubbed(91)})
				same := slices.Clone(room)
				call(p, room[:len(given)])
				if !slices.Equal(room, same) {
					t.Fatalf("the changes are now %v", room)
				}
				for i := range room {
					room[i] = subbed(77, "scribble")
				}
				p.hold()
				p.append(row[1])
				p.sync()
				p.rewrite(3, row[2])
				p.crash(-1, -1).open()
				if !slices.Equal(room, slices.Repeat([]api.Change{subbed(77, "scribble")}, len(room))) {
					t.Fatalf("the changes are now %v", room)
				}
			}
		}
	}
}

// room is where a list lies, its spare room too.
type room struct{ from, to uintptr }

func roomOf[T any](list []T) room {
	from := uintptr(unsafe.Pointer(unsafe.SliceData(list)))
	return room{from, from + uintptr(cap(list))*unsafe.Sizeof(*new(T))}
}

// scribble writes over a list that was answered, behind its end, and appends to it.
func scribble[T any](list []T, with T) {
	_ = append(list, with, with, with)
	list = list[:cap(list)]
	for i := range list {
		list[i] = with
	}
}

// Rule 5: what Open answers is new memory: no journal, no disk and no other answer sees what is written there.
func TestAnswersAreNew(t *testing.T) {
	row := several()
	states := []func(p *pair){
		func(p *pair) {},
		func(p *pair) { p.ok(p.append(row...)) },
		func(p *pair) { p.ok(p.sync()) },
		func(p *pair) { p.ok(p.append(row[0])) },
		func(p *pair) { p.ok(p.rewrite(9, row...)) },
		func(p *pair) { p.lay("journal", []byte{1, 2, 3}, 1) },
		func(p *pair) { p.lay("fresh", []byte{1, 2, 3}, 1) },
	}
	p := opened(t)
	for _, state := range states {
		state(p)
		rooms := []room{roomOf(row)}
		var lists [][]api.Change
		var wants [][]api.Change
		for range 4 {
			_, changes, e := p.openFor()
			p.ok(e)
			lists = append(lists, changes)
			wants = append(wants, slices.Clone(changes))
			rooms = append(rooms, roomOf(changes))
		}
		for i, a := range rooms {
			for _, b := range rooms[:i] {
				if a.from < b.to && b.from < a.to {
					t.Fatal("two lists share memory")
				}
			}
		}
		for i, list := range lists {
			if !slices.Equal(list, wants[i]) {
				t.Fatalf("an answer is %v now, not %v", list, wants[i])
			}
			scribble(list, subbed(77, "scribble"))
			p.hold()
		}
		if !slices.Equal(row, several()) {
			t.Fatalf("the changes are now %v", row)
		}
	}
	// What was answered stays, whatever becomes of the journal.
	_, changes, _ := p.openFor()
	want := slices.Clone(changes)
	for range 20 {
		p.ok(p.append(unsubbed(1), unsubbed(2)))
	}
	p.ok(p.rewrite(5, replaced(4, "y")))
	p.crash()
	if !slices.Equal(changes, want) {
		t.Errorf("an answer is %v now, not %v", changes, want)
	}
}

// heap is how much is in use behind all that is no longer needed.
func heap() uint64 {
	runtime.GC()
	runtime.GC()
	var m runtime.MemStats
	runtime.ReadMemStats(&m)
	return m.HeapAlloc
}

// Rule 5: a text that is a piece of a longer one doesn't keep that one, nor is a change kept beside its record.
func TestTextsAreNotKept(t *testing.T) {
	d := disk.New()
	j, _, _, e := journal.Open(d)
	if e != api.OK {
		t.Fatal(e)
	}
	// Each time another one, so that none is the same memory.
	piece := func(text string) string { return (text + strings.Repeat(" ", 1<<20))[:len(text)] }
	before := heap()
	for i := 1; i <= 30; i++ {
		if j.Append(subbed(i, piece("a {1}")), replaced(i, piece("a {2}"))) != api.OK || j.Sync() != api.OK {
			t.Fatal(i)
		}
		if i%10 == 0 && j.Rewrite(i, subbed(i, piece("a {1}"))) != api.OK {
			t.Fatal(i)
		}
	}
	if after := heap(); after > before+1<<20 {
		t.Errorf("%d bytes are kept", after-before)
	}
	if j.Count() != 1 {
		t.Errorf("Count = %d", j.Count())
	}
	runtime.KeepAlive(d)
}

// Rule 5: of what was read nothing is kept: a journal holds its disk, and numbers.
func TestWhatWasReadIsNotKept(t *testing.T) {
	d := disk.New()
	j, _, _, _ := journal.Open(d)
	for i := range 500 {
		if e := j.Append(subbed(i+1, long(api.MaxText))); e != api.OK {
			t.Fatal(e)
		}
	}
	if e := j.Sync(); e != api.OK {
		t.Fatal(e)
	}
	var kept []*journal.Journal
	before := heap()
	for range 20 {
		j, _, changes, e := journal.Open(d)
		if e != api.OK || len(changes) != 500 {
			t.Fatal(len(changes), e)
		}
		kept = append(kept, j)
	}
	if after := heap(); after > before+1<<20 {
		t.Errorf("%d bytes are kept", after-before)
	}
	if kept[19].Count() != 500 || kept[0].Bytes() != kept[19].Bytes() {
		t.Error("the journals tell something else now")
	}
}

// Rule 5: texts that Open answers don't keep all that was read with them.
func TestOneTextKeepsNoOther(t *testing.T) {
	d := disk.New()
	j, _, _, _ := journal.Open(d)
	row := []api.Change{subbed(1, "a {1}")}
	for i := range 300 {
		row = append(row, subbed(i+2, long(api.MaxText)))
	}
	if e := j.Rewrite(1, row...); e != api.OK {
		t.Fatal(e)
	}
	var kept []api.Change
	before := heap()
	for range 20 {
		_, _, changes, e := journal.Open(d)
		if e != api.OK {
			t.Fatal(e)
		}
		kept = append(kept, changes[0])
	}
	if after := heap(); after > before+1<<20 {
		t.Errorf("%d bytes are kept", after-before)
	}
	if kept[0] != row[0] || kept[19] != row[0] {
		t.Error(kept)
	}
	runtime.KeepAlive(row)
}
