package conj

import (
	"cmp"
	"slices"
	"strings"

	"trommel/api"
)

// both is what holds where two normal predicates of one attribute do. Their
// lists are its own to change.
func both(a, b api.Pred) (api.Pred, bool) {
	// A set comes first, if there is one: its members are asked one by one
	// whether the other has them, be that a set, a range or a prefix.
	if isSet(b) {
		a, b = b, a
	}
	switch {
	case a.Kind == api.PredInts:
		return amongInts(a.Attr, slices.DeleteFunc(a.Ints, func(x int) bool { return !hasInt(b, x) }))
	case a.Kind == api.PredWords:
		return amongWords(a.Attr, slices.DeleteFunc(a.Words, func(w string) bool { return !hasWord(b, w) }))
	case a.Kind != b.Kind:
		return api.Pred{}, false
	case a.Kind == api.PredRange:
		return between(a.Attr, max(a.Lo, b.Lo), min(a.Hi, b.Hi))
	}
	return longer(a.Attr, a.Words[0], b.Words[0])
}

// longer is the prefix that two come to: the shorter one must be the longer
// one's beginning.
func longer(attr, a, b string) (api.Pred, bool) {
	if len(a) < len(b) {
		a, b = b, a
	}
	if !strings.HasPrefix(a, b) {
		return api.Pred{}, false
	}
	return begins(attr, a)
}

func isSet(p api.Pred) bool { return p.Kind == api.PredInts || p.Kind == api.PredWords }

// hasInt tells whether a normal predicate holds for a number.
func hasInt(p api.Pred, x int) bool {
	if p.Kind == api.PredRange {
		return p.Lo <= x && x <= p.Hi
	}
	// Ints are none where the predicate asks for words.
	_, found := slices.BinarySearch(p.Ints, x)
	return found
}

// hasWord tells whether a normal predicate holds for a word.
func hasWord(p api.Pred, w string) bool {
	if p.Kind == api.PredPrefix {
		return strings.HasPrefix(w, p.Words[0])
	}
	_, found := slices.BinarySearch(p.Words, w)
	return found
}

// amongInts is the set of numbers that rise strictly; false, if there are none.
func amongInts(attr string, ints []int) (api.Pred, bool) {
	if len(ints) == 0 {
		return api.Pred{}, false
	}
	return api.Pred{Kind: api.PredInts, Attr: attr, Ints: ints}, true
}

// amongWords is the set of words that rise strictly; false, if there are none.
func amongWords(attr string, words []string) (api.Pred, bool) {
	if len(words) == 0 {
		return api.Pred{}, false
	}
	return api.Pred{Kind: api.PredWords, Attr: attr, Words: words}, true
}

// between is the normal predicate of the numbers from lo to hi; false, if
// there are none.
func between(attr string, lo, hi int) (api.Pred, bool) {
	switch {
	case lo > hi:
		return api.Pred{}, false
	case lo == hi:
		return amongInts(attr, []int{lo})
	}
	return api.Pred{Kind: api.PredRange, Attr: attr, Lo: lo, Hi: hi}, true
}

// begins is the predicate of the words that begin so.
func begins(attr, word string) (api.Pred, bool) {
	return api.Pred{Kind: api.PredPrefix, Attr: attr, Words: []string{word}}, true
}

// eachOnce are the members, sorted, each once, in a list of their own.
func eachOnce[T cmp.Ordered](members []T) []T {
	return slices.Compact(slices.Sorted(slices.Values(members)))
}
