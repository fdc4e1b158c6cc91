package shell_test

import (
	"math/rand/v2"
	"runtime"
	"slices"
	"strings"
	"testing"
	"unsafe"

	"trommel/api"
	"trommel/shell"
)

// P1, rule 6: the same text is told the same each time, whatever was played between.
func TestSameEachTime(t *testing.T) {
	chance := rand.New(rand.NewPCG(26, 7))
	texts := append(someTexts(t, chance, 60), "", plain, heavy())
	want := make([]string, len(texts))
	for i, text := range texts {
		want[i] = shell.Run(text)
		if again := shell.Run(text); again != want[i] {
			t.Fatalf("of %q is told %q, and then %q", text, want[i], again)
		}
	}
	for range 3 {
		for _, i := range chance.Perm(len(texts)) {
			if got := shell.Run(strings.Clone(texts[i])); got != want[i] {
				t.Fatalf("of %q is told %q, and then %q", texts[i], want[i], got)
			}
		}
	}
}

// P1, rule 1: texts of any bytes, and very long ones, end and are told.
func TestAnyTexts(t *testing.T) {
	chance := rand.New(rand.NewPCG(26, 8))
	pieces := []string{"config 9 9 9 9 2 1 1 2\n", plain, plain, sub + "\n", "drain\n", "crash\n", "crash -1\n", "arm 1 5\n", "tidy\n", "stop\n", "step 0 1\n", "call 1 match a=1\n", "call", " ", "\n", "0", "\"", "\x00", "\xff", "attr b int\n"}
	for range 5000 {
		var s strings.Builder
		for range chance.IntN(12) {
			s.WriteString(someOf(chance, pieces...))
		}
		told := shell.Run(s.String())
		if !strings.HasSuffix(told, "\n") || strings.HasPrefix(told, "refused") != (strings.Count(told, "\n") == 1) {
			t.Fatalf("of %q is told %q", s.String(), told)
		}
	}
	plays(t, []string{sub, "step" + strings.Repeat(" -7", 1<<18), "crash" + strings.Repeat(" 3", 1<<18)}, "1 ok", "2 moved 7", "user 0 number 1", "order 0", "registry 1 1 2", "3 ok", "order", "registry 1 1 2")
	plays(t, []string{"call 0 match" + strings.Repeat(" a=1", 1<<16), "drain"}, "1 ok", "2 moved 6", "user 0 refused 12", "order 0", "registry 0 0 1")
	refuses(t, plain+"step"+strings.Repeat(" ", 1<<20)+"\n", 4)
	refuses(t, strings.Repeat("\n", 1<<20), 1)
	refuses(t, strings.Repeat("x", 1<<20), 1)
}

// P1, rule 1: as many calls as there may be ops, and as many crashes of a full registry as there is room for.
func TestFull(t *testing.T) {
	config := "config 32 64 1024 4096 8 16 16 8\nattr a int\n"
	told := shell.Run(config + strings.Repeat(sub+"\n", api.MaxOps-1) + "drain\n")
	if !strings.HasSuffix(told, "\nuser 0 refused 14\norder"+strings.Repeat(" 0", api.MaxOps-1)+"\nregistry 1024 1024 1025\n") || !strings.Contains(told, "\nuser 0 number 1024\nuser 0 refused 14\n") {
		t.Error("a registry that is full")
	}
	told = shell.Run(config + strings.Repeat(sub+"\n", api.MaxSubs) + "drain\n" + strings.Repeat("crash\n", 20))
	if strings.Count(told, "registry 1024 1024 1025\n") != 21 {
		t.Error("crashes of a registry that is full")
	}
}

// room is where a list or a text lies.
type room struct{ from, to uintptr }

func listRoom(list []string) room {
	from := uintptr(unsafe.Pointer(unsafe.SliceData(list)))
	return room{from, from + uintptr(cap(list))*unsafe.Sizeof("")}
}

func textRoom(text string) room {
	from := uintptr(unsafe.Pointer(unsafe.StringData(text)))
	return room{from, from + uintptr(len(text))}
}

// Rule 5: texts that are handed in stay as they were, the spare room too; what is answered is new memory, each time.
func TestNewMemory(t *testing.T) {
	texts := []string{plain + lines(sub, "call 1 match c=\"xyz\"", "drain"), "", "refused line 1\n", plain, plain, plain + "x", "spare", "room"}
	same := slices.Clone(texts)
	first, second := shell.Batch(texts[:6]...), shell.Batch(texts[:6]...)
	if !slices.Equal(texts, same) {
		t.Fatalf("handed in was changed: %q", texts)
	}
	rooms := []room{listRoom(texts), listRoom(first), listRoom(second)}
	for i := range first {
		rooms = append(rooms, textRoom(first[i]), textRoom(second[i]), textRoom(shell.Run(texts[i])))
	}
	// Two of the texts handed in are one.
	for _, i := range []int{0, 2, 3, 5} {
		rooms = append(rooms, textRoom(texts[i]))
	}
	for i, a := range rooms {
		for _, b := range rooms[:i] {
			if a.from < b.to && b.from < a.to {
				t.Fatal("two of them share memory")
			}
		}
	}
	_ = append(first, "scribble", "scribble")
	clear(first[:cap(first)])
	clear(texts)
	for i := range second {
		if second[i] != shell.Run(same[i]) {
			t.Fatalf("told is %q now", second[i])
		}
	}
}

// Rule 5: nothing of what was handed in, nor of what was made on the way, is kept behind the call.
func TestNothingIsKept(t *testing.T) {
	heap := func() uint64 {
		runtime.GC()
		runtime.GC()
		var m runtime.MemStats
		runtime.ReadMemStats(&m)
		return m.HeapAlloc
	}
	before := heap()
	var told []string
	for i := range 10 {
		long := plain + "step" + strings.Repeat(" 1", 1<<18) + "\n" + lines(sub, "drain", "crash")
		told = append(told, shell.Run(long))
		told = append(told, shell.Batch(long, long+"x", "x"+long[i:])...)
	}
	if after := heap(); after > before+1<<19 {
		t.Errorf("%d bytes are kept", after-before)
	}
	runtime.KeepAlive(told)
}
