package prefix_test

import (
	"cmp"
	"slices"
	"testing"

	"trommel/api"
	"trommel/prefix"
)

// bag is a trie as the chapter tells it: all words that are in, one behind the
// other, as often as they are.
type bag struct {
	all []string
}

func (b *bag) count(word string) int {
	n := 0
	for _, w := range b.all {
		if w == word {
			n++
		}
	}
	return n
}

func (b *bag) add(words ...string) int {
	fresh := 0
	for _, w := range words {
		if len(w) > api.MaxWord {
			continue
		}
		if b.count(w) == 0 {
			fresh++
		}
		b.all = append(b.all, w)
	}
	return fresh
}

func (b *bag) drop(words ...string) int {
	taken := 0
	for _, w := range words {
		if place := slices.Index(b.all, w); place >= 0 {
			b.all = slices.Delete(b.all, place, place+1)
			taken++
		}
	}
	return taken
}

// once are the words that are in, each once, in no order that is told.
func (b *bag) once() []string {
	var out []string
	for _, w := range b.all {
		if !slices.Contains(out, w) {
			out = append(out, w)
		}
	}
	return out
}

// begins tells whether a text begins so, byte by byte.
func begins(text, beginning string) bool {
	for i := range len(beginning) {
		if i >= len(text) || text[i] != beginning[i] {
			return false
		}
	}
	return true
}

func (b *bag) of(word string) []string {
	found := slices.DeleteFunc(b.once(), func(w string) bool { return !begins(word, w) })
	slices.SortFunc(found, func(x, y string) int { return cmp.Compare(len(x), len(y)) })
	return found
}

func (b *bag) under(beginning string) []string {
	found := slices.DeleteFunc(b.once(), func(w string) bool { return !begins(w, beginning) })
	slices.SortFunc(found, func(x, y string) int { return slices.Compare([]byte(x), []byte(y)) })
	return found
}

// hold holds all that a trie tells of some texts against its bag.
func hold(t *testing.T, x *prefix.Trie, b *bag, texts []string) {
	t.Helper()
	if x.Len() != len(b.once()) || x.Total() != len(b.all) {
		t.Fatalf("%q: Len %d, Total %d", b.all, x.Len(), x.Total())
	}
	if x.Sizes.Len() != x.Len() || x.Sizes.Total() != x.Total() {
		t.Fatalf("%q: the Sizes tell %d, %d", b.all, x.Sizes.Len(), x.Sizes.Total())
	}
	for _, text := range texts {
		if got, want := x.Count(text), b.count(text); got != want {
			t.Fatalf("%q: Count(%q) = %d, not %d", b.all, text, got, want)
		}
		if got, want := x.Of(text), b.of(text); !slices.Equal(got, want) {
			t.Fatalf("%q: Of(%q) = %q, not %q", b.all, text, got, want)
		}
		if got, want := x.Under(text), b.under(text); !slices.Equal(got, want) {
			t.Fatalf("%q: Under(%q) = %q, not %q", b.all, text, got, want)
		}
	}
}
