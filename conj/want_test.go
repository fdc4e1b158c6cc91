package conj_test

import (
	"cmp"
	"slices"

	"trommel/api"
	"trommel/eval"
	"trommel/tree"
)

// wantNormal is the normal predicate as the chapter tells it.
func wantNormal(p api.Pred) (api.Pred, bool) {
	if tree.Pred(p) != api.OK || p.Kind == api.PredRange && p.Lo > p.Hi {
		return api.Pred{}, false
	}
	switch {
	case p.Kind == api.PredInts:
		return ints(p.Attr, set(p.Ints)...), true
	case p.Kind == api.PredWords:
		return words(p.Attr, set(p.Words)...), true
	case p.Kind == api.PredRange && p.Lo == p.Hi:
		return ints(p.Attr, p.Lo), true
	}
	return p, true
}

// set are members in their order, each put where it belongs, if it isn't there yet.
func set[T cmp.Ordered](members []T) []T {
	var out []T
	for _, m := range members {
		place := 0
		for place < len(out) && out[place] < m {
			place++
		}
		if place == len(out) || out[place] != m {
			out = slices.Insert(out, place, m)
		}
	}
	return out
}

// asks tells of which kind of values a predicate is.
func asks(p api.Pred) int {
	if p.Kind == api.PredInts || p.Kind == api.PredRange {
		return api.KindInt
	}
	return api.KindWord
}

// wantMeet is Meet as the chapter tells it, all predicates looked at together.
func wantMeet(preds ...api.Pred) (api.Pred, bool) {
	if len(preds) == 0 {
		return api.Pred{}, false
	}
	attr := preds[0].Attr
	for _, p := range preds {
		if tree.Pred(p) != api.OK || p.Attr != attr || asks(p) != asks(preds[0]) {
			return api.Pred{}, false
		}
	}
	all := func(v api.Value) bool {
		return !slices.ContainsFunc(preds, func(p api.Pred) bool { return !eval.Holds(p, []api.Pair{{Name: attr, Value: v}}) })
	}
	for _, p := range preds {
		var numbers []int
		var texts []string
		for _, n := range p.Ints {
			if all(api.Value{Kind: api.KindInt, Int: n}) {
				numbers = append(numbers, n)
			}
		}
		for _, w := range p.Words {
			if all(api.Value{Kind: api.KindWord, Word: w}) {
				texts = append(texts, w)
			}
		}
		if p.Kind == api.PredInts {
			return ints(attr, set(numbers)...), len(numbers) > 0
		}
		if p.Kind == api.PredWords {
			return words(attr, set(texts)...), len(texts) > 0
		}
	}
	if asks(preds[0]) == api.KindInt {
		lo, hi := api.Least, api.Most
		for _, p := range preds {
			lo, hi = max(lo, p.Lo), min(hi, p.Hi)
		}
		return wantNormal(span(attr, lo, hi))
	}
	long := slices.MaxFunc(preds, func(a, b api.Pred) int { return cmp.Compare(len(a.Words[0]), len(b.Words[0])) })
	return long, all(api.Value{Kind: api.KindWord, Word: long.Words[0]})
}

// ahead is the order of predicates as the chapter tells it.
func ahead(a, b api.Pred) int {
	if a.Attr != b.Attr {
		return sign(a.Attr < b.Attr)
	}
	if a.Kind != b.Kind {
		return sign(a.Kind < b.Kind)
	}
	if c := lists(a.Ints, b.Ints); c != 0 {
		return c
	}
	if c := lists(a.Words, b.Words); c != 0 {
		return c
	}
	if a.Lo != b.Lo {
		return sign(a.Lo < b.Lo)
	}
	if a.Hi != b.Hi {
		return sign(a.Hi < b.Hi)
	}
	return 0
}

func sign(less bool) int {
	if less {
		return -1
	}
	return 1
}

func lists[T cmp.Ordered](a, b []T) int {
	for i := 0; i < len(a) && i < len(b); i++ {
		if a[i] != b[i] {
			return sign(a[i] < b[i])
		}
	}
	if len(a) == len(b) {
		return 0
	}
	return sign(len(a) < len(b))
}

// wantConj is Make of literals in form as the chapter tells it.
func wantConj(lits []api.Lit) api.Conj {
	var c api.Conj
	var attrs []string
	for _, l := range lits {
		if !l.Neg {
			attrs = append(attrs, l.Attr)
		} else if p, ok := wantNormal(l.Pred); ok {
			place := 0
			for place < len(c.Neg) && ahead(c.Neg[place], p) < 0 {
				place++
			}
			if place == len(c.Neg) || ahead(c.Neg[place], p) != 0 {
				c.Neg = slices.Insert(c.Neg, place, p)
			}
		}
	}
	for _, attr := range set(attrs) {
		var own []api.Pred
		for _, l := range lits {
			if !l.Neg && l.Attr == attr {
				own = append(own, l.Pred)
			}
		}
		p, ok := wantMeet(own...)
		if !ok {
			return api.Conj{Never: true}
		}
		c.Pos = append(c.Pos, p)
	}
	return c
}

// isNormal tells whether a conjunction is normal, as the chapter tells it.
func isNormal(c api.Conj) bool {
	if c.Never {
		return len(c.Pos)+len(c.Neg) == 0
	}
	for i, p := range c.Pos {
		if !normalPred(p) || i > 0 && c.Pos[i-1].Attr >= p.Attr {
			return false
		}
	}
	for i, p := range c.Neg {
		if !normalPred(p) || i > 0 && ahead(c.Neg[i-1], p) >= 0 {
			return false
		}
	}
	return true
}

func normalPred(p api.Pred) bool {
	if tree.Pred(p) != api.OK || p.Kind == api.PredRange && p.Lo >= p.Hi {
		return false
	}
	for i := 1; i < len(p.Ints); i++ {
		if p.Ints[i-1] >= p.Ints[i] {
			return false
		}
	}
	for i := 1; i < len(p.Words); i++ {
		if p.Words[i-1] >= p.Words[i] {
			return false
		}
	}
	return true
}
