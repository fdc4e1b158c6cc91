package record_test

import (
	"bytes"
	"runtime"
	"slices"
	"testing"
	"unsafe"

	"trommel/api"
	"trommel/record"
)

// roomy is a list with spare room behind it, of which the first part is handed in.
func roomy[T any](list []T, spare ...T) ([]T, int) {
	return slices.Concat(list, spare), len(list)
}

// Rule 5: changes that are handed in stay as they were, the spare room too, and what was told doesn't see what becomes of them.
func TestChangesHandedInAreLeft(t *testing.T) {
	for _, wrong := range [][]api.Change{nil, {{}}} {
		list, used := roomy(append(several(), wrong...), unsubbed(90), unsubbed(91))
		same := slices.Clone(list)
		got, _ := record.Encode(list[:used]...)
		kept := slices.Clone(got)
		if !slices.Equal(list, same) {
			t.Fatalf("the changes are now %v", list)
		}
		for i := range list {
			list[i] = subbed(77, "scribble")
		}
		if !bytes.Equal(got, kept) {
			t.Error("what Encode told is another now")
		}
		if again, _ := record.Encode(same[:used]...); !bytes.Equal(again, kept) {
			t.Error("Encode tells something else now")
		}
	}
}

// Rule 5: bytes that are handed in stay as they were, the spare room too.
func TestBytesHandedInAreLeft(t *testing.T) {
	whole := slices.Concat(headOf(300), recordsOf(several()...))
	for cut := range len(whole) + 1 {
		for _, rest := range [][]byte{nil, {0x43}, {0xff, 0xff}} {
			room, used := roomy(slices.Concat(whole[:cut], rest), 9, 8, 7, 6, 5, 4, 3, 2, 1)
			same := slices.Clone(room)
			given := room[:used]
			record.Scan(given)
			record.Decode(given)
			record.Decode(given[min(len(headOf(300)), used):])
			record.Sum(given, given[:used/2], given[used/2:])
			if !bytes.Equal(room, same) {
				t.Fatalf("the bytes are now % x, not % x", room, same)
			}
		}
	}
	parts, used := roomy([][]byte{[]byte("12"), nil, []byte("3")}, []byte("spare"))
	record.Sum(parts[:used]...)
	if string(slices.Concat(parts...)) != "123spare" {
		t.Errorf("the parts are now %q", parts)
	}
}

// Rule 5: what Decode and Scan tell isn't the bytes that were handed in: these may be written over.
func TestTextsAreNew(t *testing.T) {
	row := several()
	b := slices.Concat(headOf(9), recordsOf(row...))
	_, changes, _, e := record.Scan(b)
	if e != api.OK {
		t.Fatal(e)
	}
	var single []api.Change
	for rest := b[len(headOf(9)):]; len(rest) > 0; {
		c, length, e := record.Decode(rest)
		if e != api.OK {
			t.Fatal(e)
		}
		single = append(single, c)
		rest = rest[length:]
	}
	for i := range b {
		b[i] = 0x77
	}
	if !slices.Equal(changes, row) || !slices.Equal(single, row) {
		t.Error("a text sees what is written into the bytes")
	}
}

// room is where a list lies, its spare room too.
type room struct{ from, to uintptr }

func roomOf[T any](list []T) room {
	from := uintptr(unsafe.Pointer(unsafe.SliceData(list)))
	return room{from, from + uintptr(cap(list))*unsafe.Sizeof(*new(T))}
}

// scribble writes over a list that was answered, behind its end, and appends to it.
func scribble[T any](list []T, with T) {
	_ = append(list, with, with, with)
	list = list[:cap(list)]
	for i := range list {
		list[i] = with
	}
}

// Rule 5: what Head, Encode and Scan answer is new memory, apart from all else.
func TestAnswersAreNew(t *testing.T) {
	row := several()
	b := slices.Concat(headOf(9), recordsOf(row...))
	for range 3 {
		var told [][]byte
		var lists [][]api.Change
		rooms := []room{roomOf(row), roomOf(b)}
		for range 3 {
			for _, next := range []int{1, 128, api.MaxID + 1} {
				head, _ := record.Head(next)
				told = append(told, head)
			}
			all, _ := record.Encode(row...)
			one, _ := record.Encode(row[0])
			none, _ := record.Encode()
			told = append(told, all, one, none)
			_, changes, _, _ := record.Scan(b)
			_, fewer, _, _ := record.Scan(b[:len(b)-1])
			_, empty, _, _ := record.Scan(headOf(9))
			lists = append(lists, changes, fewer, empty)
		}
		for _, list := range told {
			rooms = append(rooms, roomOf(list))
		}
		for _, list := range lists {
			rooms = append(rooms, roomOf(list))
		}
		for i, a := range rooms {
			for _, b := range rooms[:i] {
				if a.from < b.to && b.from < a.to {
					t.Fatal("two lists share memory")
				}
			}
		}
		for _, list := range told {
			scribble(list, 0x77)
		}
		for _, list := range lists {
			scribble(list, subbed(77, "scribble"))
		}
		if !slices.Equal(row, several()) {
			t.Fatalf("the changes are now %v", row)
		}
		found(t, b, 9, len(b), row...)
		if got, e := record.Encode(row...); !bytes.Equal(got, recordsOf(row...)) || e != api.OK {
			t.Errorf("Encode = % x, %d", got, e)
		}
		if got, e := record.Head(128); !bytes.Equal(got, headOf(128)) || e != api.OK {
			t.Errorf("Head = % x, %d", got, e)
		}
	}
}

// heap is how much is in use behind all that is no longer needed.
func heap() uint64 {
	runtime.GC()
	runtime.GC()
	var m runtime.MemStats
	runtime.ReadMemStats(&m)
	return m.HeapAlloc
}

// Rule 5: a change that was read doesn't keep the bytes that it was read from.
func TestBytesAreNotKept(t *testing.T) {
	var kept []api.Change
	before := heap()
	for i := 1; i <= 40; i++ {
		b := slices.Concat(headOf(1), recordOf(subbed(i, "a {1}")), make([]byte, 1<<20))
		_, changes, _, e := record.Scan(b)
		c, _, e2 := record.Decode(b[len(headOf(1)):])
		if e != api.OK || e2 != api.OK || len(changes) != 1 {
			t.Fatal(changes, e, e2)
		}
		kept = append(kept, changes[0], c)
	}
	if after := heap(); after > before+1<<20 {
		t.Errorf("%d bytes are kept", after-before)
	}
	if kept[79] != subbed(40, "a {1}") || kept[0] != subbed(1, "a {1}") {
		t.Error(kept)
	}
}
