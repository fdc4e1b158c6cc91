package disk_test

import (
	"bytes"
	"runtime"
	"slices"
	"strings"
	"testing"
	"unsafe"

	"trommel/api"
	"trommel/disk"
)

// Rule 5: bytes that are handed in stay as they were, the spare room too, and the disk doesn't see what becomes of them.
func TestBytesHandedInAreLeft(t *testing.T) {
	given := []byte{1, 2, 3, 90, 91, 92, 93, 94}
	for used := range 6 {
		for _, n := range []int{0, 1, 2} {
			for part := range used + 2 {
				room := slices.Clone(given)
				data := room[:used]
				p := newPair(t)
				p.ok(p.arm(n, part))
				p.append("a", data...)
				p.append("a", data...)
				p.append("b", data...)
				p.append("a", 7, 8)
				p.sync("a")
				p.append("a", 9)
				if !bytes.Equal(room, given) {
					t.Fatalf("the bytes are now % x", room)
				}
				for i := range room {
					room[i] = 77
				}
				p.hold()
				p.crash(-1, -1).append("a", 5)
				p.crash(3, 1)
				if !bytes.Equal(room, bytes.Repeat([]byte{77}, len(room))) {
					t.Fatalf("the bytes are now % x", room)
				}
			}
		}
	}
}

// Rule 5: so do choices.
func TestChoicesHandedInAreLeft(t *testing.T) {
	given := []int{-1, 7, 2, 90, 91}
	room := slices.Clone(given)
	p := newPair(t)
	p.ok(p.append("a", 1, 2), p.append("b", 3, 4), p.append("c", 5), p.append("ab", 6))
	found := p.crash(room[:3]...)
	if !slices.Equal(room, given) {
		t.Fatalf("the choices are now %v", room)
	}
	for i := range room {
		room[i] = 0
	}
	found.hold()
	found.has("a", 0, 1, 2)
}

// room is where a list lies, its spare room too.
type room struct{ from, to uintptr }

func roomOf[T any](list []T) room {
	from := uintptr(unsafe.Pointer(unsafe.SliceData(list)))
	return room{from, from + uintptr(cap(list))*unsafe.Sizeof(*new(T))}
}

// scribble writes over a list that was answered, behind its end, and appends to it.
func scribble[T any](list []T, with T) {
	_ = append(list, with, with, with)
	list = list[:cap(list)]
	for i := range list {
		list[i] = with
	}
}

// Rule 5: what Read and Names answer is new memory: no disk, and no other answer, sees what is written there.
func TestAnswersAreNew(t *testing.T) {
	data := []byte{1, 2, 3}
	p := newPair(t)
	p.ok(p.append("a", data...), p.sync("a"), p.append("a", 4), p.append("b"), p.append("c", data...))
	disks := []*pair{p}
	for round := range 5 {
		rooms := []room{roomOf(data)}
		var reads [][]byte
		var names [][]string
		for range 3 {
			for _, q := range disks {
				for _, name := range []string{"a", "b", "c"} {
					b, _ := q.d.Read(name)
					reads = append(reads, b)
					rooms = append(rooms, roomOf(b))
				}
				list := q.d.Names()
				names = append(names, list)
				rooms = append(rooms, roomOf(list))
			}
		}
		for i, a := range rooms {
			for _, b := range rooms[:i] {
				if a.from < b.to && b.from < a.to {
					t.Fatal("two lists share memory")
				}
			}
		}
		for _, b := range reads {
			scribble(b, 77)
		}
		for _, list := range names {
			scribble(list, "scribble")
		}
		for _, q := range disks {
			q.hold()
		}
		switch round {
		case 0:
			p.ok(p.append("a", 5, 6), p.sync("c"))
		case 1:
			p.ok(p.rename("c", "b"), p.append("c", 9))
		case 2:
			disks = []*pair{p.crash(), p.crash(1, 1), p.crash(-1, -1, -1), p.crash(-1, -1, -1)}
		case 3:
			for i, q := range disks {
				q.ok(q.append("a", byte(i)), q.append("b", byte(i), byte(i)))
			}
		}
	}
}

// Rule 5: what was answered stays, whatever becomes of the disk.
func TestAnswersStay(t *testing.T) {
	p := newPair(t)
	p.ok(p.append("a", 1, 2), p.append("b", 3))
	a, _ := p.d.Read("a")
	names := p.d.Names()
	for i := range 40 {
		p.ok(p.append("a", byte(i)), p.append("c"), p.rename("c", "d"))
	}
	p.ok(p.remove("a"), p.append("a", 9, 9), p.remove("b"))
	if !bytes.Equal(a, []byte{1, 2}) || !slices.Equal(names, []string{"a", "b"}) {
		t.Errorf("answered were % x, %q", a, names)
	}
}

// Rule 5: disks that are found share nothing with the one that crashed, nor with one another: appends to one, whatever spare room there is, are seen by none.
func TestDisksAreApart(t *testing.T) {
	for length := range 20 {
		p := newPair(t)
		for i := range length {
			p.ok(p.append("a", byte(i)))
		}
		p.append("a")
		for kept := range length + 1 {
			one, two := p.crash(kept), p.crash(kept)
			one.ok(one.append("a", 101, 102, 103))
			two.ok(two.append("a", 201))
			one.hold()
			two.hold()
			p.crash(-1).hold()
			three := one.crash(1)
			three.ok(three.append("a", 55, 56))
			one.crash(3)
			two.hold()
		}
	}
}

// heap is how much is in use behind all that is no longer needed.
func heap() uint64 {
	runtime.GC()
	runtime.GC()
	var m runtime.MemStats
	runtime.ReadMemStats(&m)
	return m.HeapAlloc
}

// Rule 5: a name that is a piece of a longer text doesn't keep that one.
func TestNamesAreNotKept(t *testing.T) {
	d := disk.New()
	// Each time another one, so that none is the same memory.
	piece := func(name string) string { return (name + strings.Repeat(" ", 1<<20))[:len(name)] }
	before := heap()
	for i := range 20 {
		name := "a" + string(rune('a'+i))
		if d.Append(piece(name), 1) != api.OK || d.Append(piece(name), 2) != api.OK || d.Sync(piece(name)) != api.OK || d.Append(piece("x"), 3) != api.OK || d.Rename(piece("x"), piece("b"+name)) != api.OK || d.Rename(piece(name), piece("b"+name)) != api.OK {
			t.Fatal(name)
		}
	}
	if after := heap(); after > before+1<<20 {
		t.Errorf("%d bytes are kept", after-before)
	}
	if len(d.Names()) != 20 {
		t.Errorf("Names = %q", d.Names())
	}
}

// Rule 5: of files that are gone, and of those under whose name another one came, nothing is kept; nor of a disk that crashed by what was found.
func TestGoneIsNotKept(t *testing.T) {
	d := disk.New()
	great := make([]byte, 1<<20)
	before := heap()
	for range 20 {
		d.Append("a", great...)
		d.Append("b", great...)
		d.Sync("a")
		d.Rename("a", "b")
		d.Remove("b")
		d.Append("c", great...)
		d.Append("d", 1)
		d.Rename("d", "c")
		d.Append("e", great...)
		d = d.Crash()
		if b, e := d.Read("e"); len(b) != 0 || e != api.OK {
			t.Fatal(len(b), e)
		}
	}
	if after := heap(); after > before+1<<19 {
		t.Errorf("%d bytes are kept", after-before)
	}
	runtime.KeepAlive(great)
	if !slices.Equal(d.Names(), []string{"c", "e"}) {
		t.Errorf("Names = %q", d.Names())
	}
}
