package shell_test

import (
	"fmt"
	"math/rand/v2"
	"runtime"
	"slices"
	"strings"
	"sync"
	"testing"
	"testing/synctest"

	"trommel/shell"
)

// batches holds that Batch answers what Run does, text by text.
func batches(t *testing.T, texts ...string) {
	t.Helper()
	got := shell.Batch(texts...)
	if len(got) != len(texts) {
		t.Fatalf("%d texts, %d answers", len(texts), len(got))
	}
	for i, text := range texts {
		if want := shell.Run(text); got[i] != want {
			t.Fatalf("of the text %d, %q, is told %q, not %q", i, text, got[i], want)
		}
	}
}

// heavy is a text that takes a while.
func heavy() string {
	return lines("config 9 64 99 4096 8 1 1 8", "attr a int", `call 0 sub "!(`+wide(64)+`)"`) + strings.Repeat(lines("call 0 match a=1", "call 1 match a=2"), 500) + "drain\n"
}

// P26.2: no text, one, the same several times, refused ones among others.
func TestBatch(t *testing.T) {
	batches(t)
	batches(t, []string{}...)
	batches(t, "")
	batches(t, "x")
	batches(t, plain)
	batches(t, plain+lines(sub, "drain"))
	batches(t, plain, "", plain+"x", plain)
	batches(t, slices.Repeat([]string{plain + lines(sub, "call 1 match a=1", "drain", "crash", "drain")}, 40)...)
	if got := shell.Batch(plain+lines(sub, "drain"), plain+"x\n", "", plain); !slices.Equal(got, []string{lines("1 ok", "2 moved 7", "user 0 number 1", "order 0", "registry 1 1 2"), "refused line 4\n", "refused line 1\n", "order\nregistry 0 0 1\n"}) {
		t.Errorf("told is %q", got)
	}
}

// P26.2: many texts, all of them others, short ones behind long ones; each answer stands where its text did.
func TestBatchOfMany(t *testing.T) {
	chance := rand.New(rand.NewPCG(26, 4))
	for range 10 {
		batches(t, someTexts(t, chance, chance.IntN(60))...)
	}
	batches(t, heavy(), plain, "", heavy(), "x", plain+"drain\n")
	var texts []string
	for i := range 500 {
		texts = append(texts, plain+strings.Repeat("stop\n", i%7)+fmt.Sprintf("call %d match\n", i%8)+strings.Repeat("drain\n", i%5))
	}
	batches(t, texts...)
}

// running is how many goroutines there are that the package has begun.
func running() int {
	stacks := make([]byte, 1<<20)
	return strings.Count(string(stacks[:runtime.Stack(stacks, true)]), "created by trommel/shell.")
}

// Chapter 26: all goroutines have ended when Batch answers, not even one that waits is left.
func TestGoroutinesEnd(t *testing.T) {
	chance := rand.New(rand.NewPCG(26, 5))
	for _, texts := range [][]string{nil, {""}, {plain}, {heavy()}, {"", heavy(), "x"}, someTexts(t, chance, 30), slices.Repeat([]string{plain + "drain\n"}, 100)} {
		synctest.Test(t, func(t *testing.T) {
			shell.Batch(texts...)
			// Behind its last act a goroutine may need a moment to go; one that waits for something stays.
			synctest.Wait()
			if count := running(); count > 0 {
				t.Fatalf("of %d texts %d goroutines are left", len(texts), count)
			}
		})
	}
}

// Ways: each text is played by a goroutine of its own.
func TestGoroutineForEach(t *testing.T) {
	for _, texts := range [][]string{{heavy()}, {heavy(), heavy(), heavy()}, slices.Repeat([]string{heavy()}, 9)} {
		count := 0
		for round := 0; round < 50 && count < len(texts); round++ {
			ended := make(chan struct{})
			go func() {
				defer close(ended)
				shell.Batch(texts...)
			}()
			for open := true; open; {
				select {
				case <-ended:
					open = false
				default:
					count = max(count, running())
				}
			}
		}
		if count != len(texts) {
			t.Errorf("%d goroutines for %d texts", count, len(texts))
		}
	}
}

// Rule 6: many calls at the same time have nothing to do with one another.
func TestAtTheSameTime(t *testing.T) {
	chance := rand.New(rand.NewPCG(26, 6))
	texts := someTexts(t, chance, 20)
	want := make([]string, len(texts))
	for i, text := range texts {
		want[i] = shell.Run(text)
	}
	var all sync.WaitGroup
	for i := range 16 {
		all.Go(func() {
			if got := shell.Batch(texts...); !slices.Equal(got, want) {
				t.Errorf("Batch tells %q, not %q", got, want)
			}
			if got := shell.Run(texts[i]); got != want[i] {
				t.Errorf("Run tells %q, not %q", got, want[i])
			}
		})
	}
	all.Wait()
}
