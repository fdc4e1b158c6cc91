package key_test

import (
	"slices"

	"trommel/api"
	"trommel/tree"
)

// ahead is the order of keys as the chapter tells it, byte by byte and number by number.
func ahead(a, b api.Key) int {
	if c := slices.Compare([]byte(a.Attr), []byte(b.Attr)); c != 0 {
		return c
	}
	for _, two := range [][2]int{{a.Kind, b.Kind}, {a.Level, b.Level}, {a.Int, b.Int}} {
		if two[0] < two[1] {
			return -1
		}
		if two[0] > two[1] {
			return 1
		}
	}
	return slices.Compare([]byte(a.Word), []byte(b.Word))
}

// put are keys in their order, with one more, if it isn't there yet.
func put(keys []api.Key, k api.Key) []api.Key {
	place := 0
	for place < len(keys) && ahead(keys[place], k) < 0 {
		place++
	}
	if place < len(keys) && keys[place] == k {
		return keys
	}
	return slices.Insert(keys, place, k)
}

// wantOf are a predicate's keys as the chapter tells them.
func wantOf(p api.Pred) []api.Key {
	if tree.Pred(p) != api.OK {
		return nil
	}
	var keys []api.Key
	switch {
	case p.Kind == api.PredInts:
		for _, x := range p.Ints {
			keys = put(keys, intKey(p.Attr, x))
		}
	case p.Kind == api.PredWords:
		for _, w := range p.Words {
			keys = put(keys, wordKey(p.Attr, w))
		}
	case p.Kind == api.PredRange && p.Lo == p.Hi:
		keys = put(keys, intKey(p.Attr, p.Lo))
	case p.Kind == api.PredRange:
		keys = within(nil, p, 32, 0)
	default:
		keys = put(keys, prefixKey(p.Attr, p.Words[0]))
	}
	return keys
}

// within goes down from a span, and puts in each that lies within a range: its parent doesn't.
func within(keys []api.Key, p api.Pred, level, index int) []api.Key {
	first := api.Least + index<<level
	last := first + 1<<level - 1
	if last < p.Lo || p.Hi < first {
		return keys
	}
	if p.Lo <= first && last <= p.Hi {
		return put(keys, spanKey(p.Attr, level, index))
	}
	return within(within(keys, p, level-1, 2*index), p, level-1, 2*index+1)
}

// wantEvent are an event's keys as the chapter tells them.
func wantEvent(event []api.Pair) []api.Key {
	var keys []api.Key
	for place, p := range event {
		if slices.ContainsFunc(event[:place], func(q api.Pair) bool { return q.Name == p.Name }) {
			continue
		}
		switch {
		case isNumber(p.Value):
			keys = put(keys, intKey(p.Name, p.Int))
			for level, index := 0, p.Int-api.Least; level <= 32; level, index = level+1, index/2 {
				keys = put(keys, spanKey(p.Name, level, index))
			}
		case isWord(p.Value):
			keys = put(keys, wordKey(p.Name, p.Word))
			beginning := ""
			keys = put(keys, prefixKey(p.Name, beginning))
			for _, b := range []byte(p.Word) {
				beginning += string([]byte{b})
				keys = put(keys, prefixKey(p.Name, beginning))
			}
		}
	}
	return keys
}

func isNumber(v api.Value) bool {
	return v.Kind == api.KindInt && -1<<31 <= v.Int && v.Int < 1<<31 && v.Word == ""
}

func isWord(v api.Value) bool { return v.Kind == api.KindWord && len(v.Word) <= 64 && v.Int == 0 }

// wantShared are the keys of both lists, by looking for each of the one in the other.
func wantShared(a, b []api.Key) []api.Key {
	var keys []api.Key
	for _, k := range a {
		for _, other := range b {
			if k == other {
				keys = put(keys, k)
			}
		}
	}
	return keys
}
