package span_test

import (
	"math"
	"math/rand/v2"
	"slices"
	"testing"
	"unsafe"

	"trommel/api"
	"trommel/span"
)

// levels is how many there are.
const levels = 33

// notNumbers are the numbers just beyond those that are values, and far beyond them.
func notNumbers() []int {
	return []int{api.Least - 1, api.Most + 1, api.Least - 2, api.Most + 2, -1 << 32, 1 << 32, 1<<32 + 5, -1 << 62, 1 << 62, math.MinInt, math.MaxInt}
}

// notSpans are levels and indexes just out of range, and far out of it.
func notSpans() []api.Span {
	out := []api.Span{
		{Level: -1}, {Level: 33}, {Level: 34}, {Level: 64}, {Level: 65}, {Level: 1 << 32}, {Level: -1 << 32}, {Level: 1<<32 + 5}, {Level: math.MaxInt}, {Level: math.MinInt}, {Level: -1, Index: -1}, {Level: 33, Index: 1}, {Level: -1, Index: 1 << 33}, {Level: 63, Index: math.MaxInt}, {Level: -31, Index: 1}, {Level: -32, Index: 1},
	}
	for level := range levels {
		for _, index := range []int{-1, -2, 1 << (32 - level), 1<<(32-level) + 1, 1 << (33 - level), 1<<(32-level) | 1<<40, math.MaxInt, math.MinInt, -1 << (32 - level), math.MinInt + 1} {
			out = append(out, api.Span{Level: level, Index: index})
		}
	}
	return out
}

// someSpans are of every level, at both ends, in the midst, and here and there.
func someSpans() []api.Span {
	chance := rand.New(rand.NewPCG(10, 1))
	var out []api.Span
	for level := range levels {
		count := 1 << (32 - level)
		indexes := []int{0, 1, 2, count/2 - 1, count / 2, count/2 + 1, count - 2, count - 1}
		for range 4 {
			indexes = append(indexes, chance.IntN(count))
		}
		for _, index := range indexes {
			if s := (api.Span{Level: level, Index: index}); 0 <= index && index < count && !slices.Contains(out, s) {
				out = append(out, s)
			}
		}
	}
	return out
}

// someNumbers are at and beside the ends, naught and the powers of two, and here and there.
func someNumbers() []int {
	chance := rand.New(rand.NewPCG(10, 2))
	var out []int
	add := func(x int) {
		if api.Least <= x && x <= api.Most && !slices.Contains(out, x) {
			out = append(out, x)
		}
	}
	for _, base := range []int{api.Least, api.Most, 0, 1 << 30, -1 << 30, 1 << 16, -1 << 16, 1000} {
		for x := base - 3; x <= base+3; x++ {
			add(x)
		}
	}
	for range 40 {
		add(api.Least + chance.IntN(1<<32))
	}
	return out
}

// wantFirst and wantLast are a span's ends, added up number by number of that size.
func wantFirst(s api.Span) int {
	size := 1
	for range s.Level {
		size *= 2
	}
	return api.Least + s.Index*size
}

func wantLast(s api.Span) int { return wantFirst(api.Span{Level: s.Level, Index: s.Index + 1}) - 1 }

// wantCover goes down from the span of all numbers, and stops at each that lies within: its parent doesn't.
func wantCover(lo, hi int) []api.Span { return within(api.Span{Level: 32}, lo, hi) }

func within(s api.Span, lo, hi int) []api.Span {
	first, last := wantFirst(s), wantLast(s)
	if last < lo || hi < first {
		return nil
	}
	if lo <= first && last <= hi {
		return []api.Span{s}
	}
	return append(within(api.Span{Level: s.Level - 1, Index: 2 * s.Index}, lo, hi), within(api.Span{Level: s.Level - 1, Index: 2*s.Index + 1}, lo, hi)...)
}

// P10.1: the chapter's examples.
func TestExamples(t *testing.T) {
	for _, c := range []struct {
		lo, hi int
		want   []api.Span
	}{
		{0, 7, []api.Span{{Level: 3, Index: 1 << 28}}}, {1, 6, []api.Span{{Level: 0, Index: 1<<31 + 1}, {Level: 1, Index: 1<<30 + 1}, {Level: 1, Index: 1<<30 + 2}, {Level: 0, Index: 1<<31 + 6}}},
		{api.Least, api.Most, []api.Span{{Level: 32}}}, {5, 4, nil},
	} {
		if got := span.Cover(c.lo, c.hi); !slices.Equal(got, c.want) {
			t.Errorf("Cover(%d, %d) = %v", c.lo, c.hi, got)
		}
	}
	path := span.Path(0)
	if len(path) != levels || path[0] != (api.Span{Level: 0, Index: 1 << 31}) || path[1] != (api.Span{Level: 1, Index: 1 << 30}) || path[31] != (api.Span{Level: 31, Index: 1}) || path[32] != (api.Span{Level: 32}) {
		t.Errorf("Path(0) = %v", path)
	}
	for _, c := range []struct {
		xs   []int
		want api.Span
	}{{[]int{0, 1}, api.Span{Level: 1, Index: 1 << 30}}, {[]int{-1, 0}, api.Span{Level: 32}}, {[]int{5}, api.Span{Level: 0, Index: 1<<31 + 5}}} {
		if got, ok := span.Common(c.xs...); !ok || got != c.want {
			t.Errorf("Common(%v) = %v, %t", c.xs, got, ok)
		}
	}
}

// P10.1: Check, Bounds, Has and Parent of spans of every level.
func TestSpans(t *testing.T) {
	for _, s := range someSpans() {
		first, last := wantFirst(s), wantLast(s)
		if e := span.Check(s); e != api.OK {
			t.Errorf("Check(%v) = %d", s, e)
		}
		if lo, hi := span.Bounds(s); lo != first || hi != last {
			t.Errorf("Bounds(%v) = %d, %d, not %d, %d", s, lo, hi, first, last)
		}
		for _, x := range slices.Concat([]int{first, last, first - 1, last + 1, first + (last-first)/2}, someNumbers(), notNumbers()) {
			if got := span.Has(s, x); got != (first <= x && x <= last) {
				t.Errorf("Has(%v, %d) = %t", s, x, got)
			}
		}
		p, ok := span.Parent(s)
		if s.Level == 32 {
			if ok || p != (api.Span{}) {
				t.Errorf("Parent(%v) = %v, %t", s, p, ok)
			}
		} else if !ok || p.Level != s.Level+1 || wantFirst(p) > first || wantLast(p) < last || span.Check(p) != api.OK {
			t.Errorf("Parent(%v) = %v, %t", s, p, ok)
		}
	}
	for _, c := range []struct {
		s      api.Span
		lo, hi int
	}{
		{api.Span{}, api.Least, api.Least}, {api.Span{Index: 1}, api.Least + 1, api.Least + 1}, {api.Span{Index: 1<<32 - 1}, api.Most, api.Most}, {api.Span{Index: 1 << 31}, 0, 0}, {api.Span{Level: 32}, api.Least, api.Most},
		{api.Span{Level: 31}, api.Least, -1}, {api.Span{Level: 31, Index: 1}, 0, api.Most}, {api.Span{Level: 1, Index: 1<<31 - 1}, api.Most - 1, api.Most}, {api.Span{Level: 3, Index: 1 << 28}, 0, 7}, {api.Span{Level: 3, Index: 1<<28 - 1}, -8, -1},
	} {
		if lo, hi := span.Bounds(c.s); lo != c.lo || hi != c.hi || span.Check(c.s) != api.OK {
			t.Errorf("Bounds(%v) = %d, %d", c.s, lo, hi)
		}
	}
}

// P10.1: what is no span: refused, without bounds, numbers and parent.
func TestNoSpans(t *testing.T) {
	for _, s := range notSpans() {
		if e := span.Check(s); e != api.ErrForm {
			t.Errorf("Check(%v) = %d", s, e)
		}
		if lo, hi := span.Bounds(s); lo != 0 || hi != 0 {
			t.Errorf("Bounds(%v) = %d, %d", s, lo, hi)
		}
		if p, ok := span.Parent(s); ok || p != (api.Span{}) {
			t.Errorf("Parent(%v) = %v, %t", s, p, ok)
		}
		for _, x := range slices.Concat([]int{0, 1, -1}, someNumbers(), notNumbers()) {
			if span.Has(s, x) {
				t.Errorf("Has(%v, %d)", s, x)
			}
		}
	}
}

// P10.1: the spans of a range, by going down from the span of all; bounds beyond all numbers, ranges of one number and of none.
func TestCover(t *testing.T) {
	all := append(someNumbers(), notNumbers()...)
	for _, lo := range all {
		for _, hi := range all {
			got := span.Cover(lo, hi)
			var want []api.Span
			if lo <= hi {
				want = wantCover(lo, hi)
			}
			if !slices.Equal(got, want) {
				t.Fatalf("Cover(%d, %d) = %v, not %v", lo, hi, got, want)
			}
		}
	}
	for _, c := range []struct{ lo, hi, count int }{
		{math.MinInt, math.MaxInt, 1}, {math.MaxInt, math.MinInt, 0}, {math.MinInt, api.Least - 1, 0}, {math.MinInt, api.Least, 1}, {api.Most + 1, math.MaxInt, 0}, {api.Most, math.MaxInt, 1}, {api.Least, api.Least, 1}, {api.Most, api.Most, 1}, {5, 5, 1}, {5, 4, 0}, {0, -1, 0},
		{api.Least, -1, 1}, {0, api.Most, 1}, {-1, 0, 2}, {api.Least, 0, 2}, {-1, api.Most, 2}, {api.Least + 1, api.Most, 32}, {api.Least, api.Most - 1, 32}, {api.Least + 1, api.Most - 1, 62}, {api.Most + 1, api.Least - 1, 0}, {api.Least - 1, api.Most + 1, 1},
	} {
		if got := span.Cover(c.lo, c.hi); len(got) != c.count {
			t.Errorf("Cover(%d, %d) has %d", c.lo, c.hi, len(got))
		}
	}
}

// P10.1: each span is held to the words of Cover: it lies within, its parent doesn't; and no other does so.
func TestCoverByItsWords(t *testing.T) {
	for _, base := range []int{api.Least, -24, api.Most - 47} {
		for lo := base; lo < base+48; lo++ {
			for hi := lo; hi < base+48; hi++ {
				var want []api.Span
				for level := range levels {
					for s := (api.Span{Level: level, Index: (lo - api.Least) >> level}); span.Check(s) == api.OK && wantFirst(s) <= hi; s.Index++ {
						p, ok := span.Parent(s)
						if lo <= wantFirst(s) && wantLast(s) <= hi && !(ok && lo <= wantFirst(p) && wantLast(p) <= hi) {
							want = append(want, s)
						}
					}
				}
				slices.SortFunc(want, func(a, b api.Span) int { return wantFirst(a) - wantFirst(b) })
				if got := span.Cover(lo, hi); !slices.Equal(got, want) {
					t.Fatalf("Cover(%d, %d) = %v, not %v", lo, hi, got, want)
				}
			}
		}
	}
}

// P10.2: one behind the other, from lo to hi, at most 62.
func TestCoverHasJustTheRange(t *testing.T) {
	all := append(someNumbers(), notNumbers()...)
	for _, lo := range all {
		for _, hi := range all {
			next, end := max(lo, api.Least), min(hi, api.Most)
			got := span.Cover(lo, hi)
			for _, s := range got {
				first, last := span.Bounds(s)
				if span.Check(s) != api.OK || first != next {
					t.Fatalf("Cover(%d, %d) = %v: a gap or a meeting at %d", lo, hi, got, next)
				}
				next = last + 1
			}
			if len(got) > 62 || len(got) > 0 && next != end+1 || (len(got) == 0) != (max(lo, api.Least) > end) {
				t.Fatalf("Cover(%d, %d) = %v ends at %d", lo, hi, got, next)
			}
		}
	}
}

// P10.2: no fewer spans have just these numbers.
func TestCoverIsFewest(t *testing.T) {
	const room = 150
	for _, base := range []int{api.Least, api.Least + 5, -77, -64, 0, 1 << 20, api.Most - room + 1} {
		for length := 1; length <= room; length++ {
			lo, hi := base, base+length-1
			// fewest[i] is the least number of spans for the numbers from lo+i on.
			fewest := make([]int, length+1)
			for i := length - 1; i >= 0; i-- {
				fewest[i] = math.MaxInt
				for size := 1; i+size <= length && (lo+i-api.Least)%size == 0; size *= 2 {
					fewest[i] = min(fewest[i], 1+fewest[i+size])
				}
			}
			for i := range length {
				if got := span.Cover(lo+i, hi); len(got) != fewest[i] {
					t.Fatalf("Cover(%d, %d) has %d, not %d", lo+i, hi, len(got), fewest[i])
				}
			}
		}
	}
}

// P10.1: Path of numbers and of what is none.
func TestPath(t *testing.T) {
	for _, x := range someNumbers() {
		path := span.Path(x)
		if len(path) != levels {
			t.Fatalf("Path(%d) has %d", x, len(path))
		}
		for level, s := range path {
			if s.Level != level || span.Check(s) != api.OK || x < wantFirst(s) || x > wantLast(s) || !span.Has(s, x) {
				t.Errorf("Path(%d) has %v at %d", x, s, level)
			}
			if p, ok := span.Parent(s); level < 32 && (!ok || p != path[level+1]) {
				t.Errorf("Parent(%v) = %v, %t", s, p, ok)
			}
		}
	}
	for _, x := range notNumbers() {
		if path := span.Path(x); len(path) != 0 {
			t.Errorf("Path(%d) = %v", x, path)
		}
	}
	if path := span.Path(api.Least); path[0] != (api.Span{}) || path[31] != (api.Span{Level: 31}) {
		t.Errorf("Path of the least = %v", path)
	}
	if path := span.Path(api.Most); path[0] != (api.Span{Index: 1<<32 - 1}) || path[31] != (api.Span{Level: 31, Index: 1}) {
		t.Errorf("Path of the most = %v", path)
	}
}

// P10.3: a number lies in a range just if one of its path, and then just one, is in the range's cover.
func TestPathMeetsCover(t *testing.T) {
	hold := func(lo, hi int, xs []int) {
		t.Helper()
		cover := span.Cover(lo, hi)
		for _, x := range xs {
			count := 0
			for _, s := range span.Path(x) {
				if slices.Contains(cover, s) {
					count++
				}
			}
			want := 0
			if lo <= x && x <= hi && api.Least <= x && x <= api.Most {
				want = 1
			}
			if count != want {
				t.Fatalf("%d of the path of %d are in the cover of %d to %d", count, x, lo, hi)
			}
		}
	}
	few := []int{math.MinInt, api.Least - 1, api.Least, api.Least + 1, -1 << 16, -3, 0, 1, 6, 1 << 30, api.Most - 1, api.Most, api.Most + 1, math.MaxInt}
	for _, lo := range few {
		for _, hi := range few {
			hold(lo, hi, append(someNumbers(), notNumbers()...))
		}
	}
	for _, base := range []int{api.Least, -16, api.Most - 31} {
		var xs []int
		for x := base - 1; x <= base+32; x++ {
			xs = append(xs, x)
		}
		for lo := base; lo < base+32; lo++ {
			for hi := lo - 1; hi < base+32; hi++ {
				hold(lo, hi, xs)
			}
		}
	}
}

// wantCommon goes up from the first number's own span till all are had.
func wantCommon(xs ...int) api.Span {
	s := api.Span{Index: xs[0] - api.Least}
	for slices.ContainsFunc(xs, func(x int) bool { return x < wantFirst(s) || x > wantLast(s) }) {
		s = api.Span{Level: s.Level + 1, Index: s.Index / 2}
	}
	return s
}

// P10.1: the lowest span of one, two, three and many numbers; the same twice; none; what is no number, wherever it stands.
func TestCommon(t *testing.T) {
	all := someNumbers()
	for i, a := range all {
		if got, ok := span.Common(a); !ok || got != (api.Span{Index: a - api.Least}) {
			t.Errorf("Common(%d) = %v, %t", a, got, ok)
		}
		for j, b := range all {
			c := all[(i*7+j*3)%len(all)]
			for _, xs := range [][]int{{a, b}, {a, b, c}, {a, a}, {b, a, b, a}, {c, c, a, b, a}} {
				if got, ok := span.Common(xs...); !ok || got != wantCommon(xs...) {
					t.Fatalf("Common(%v) = %v, %t, not %v", xs, got, ok, wantCommon(xs...))
				}
			}
		}
	}
	for _, c := range []struct {
		xs   []int
		want api.Span
	}{
		{[]int{api.Least, api.Most}, api.Span{Level: 32}}, {[]int{api.Least, -1}, api.Span{Level: 31}}, {[]int{0, api.Most}, api.Span{Level: 31, Index: 1}}, {[]int{3, 4}, api.Span{Level: 3, Index: 1 << 28}}, {[]int{4, 5, 6}, api.Span{Level: 2, Index: 1<<29 + 1}}, {[]int{6, 7, 7, 6}, api.Span{Level: 1, Index: 1<<30 + 3}}, {[]int{-1, -2}, api.Span{Level: 1, Index: 1<<30 - 1}},
	} {
		if got, ok := span.Common(c.xs...); !ok || got != c.want {
			t.Errorf("Common(%v) = %v, %t", c.xs, got, ok)
		}
	}
	refuse := func(xs ...int) {
		t.Helper()
		if got, ok := span.Common(xs...); ok || got != (api.Span{}) {
			t.Errorf("Common(%v) = %v, %t", xs, got, ok)
		}
	}
	refuse()
	refuse([]int{}...)
	for _, x := range notNumbers() {
		refuse(x)
		refuse(x, x)
		refuse(x, 5)
		refuse(5, x)
		refuse(5, x, 5)
		refuse(api.Least, api.Most, x)
		refuse(5, 5, 5, 9, x)
	}
	many := slices.Repeat([]int{8, 9, 11, 10}, 100000)
	if got, ok := span.Common(many...); !ok || got != (api.Span{Level: 2, Index: 1<<29 + 2}) {
		t.Errorf("Common of many = %v, %t", got, ok)
	}
	refuse(append(many, api.Most+1)...)
}

// P10.4: two spans meet only if one lies within the other; then going up from it leads there.
func TestSpansMeet(t *testing.T) {
	up := func(s, to api.Span) bool {
		for ok := true; ok; s, ok = span.Parent(s) {
			if s == to {
				return true
			}
		}
		return false
	}
	all := someSpans()
	for _, x := range []int{api.Least, 0, 5, api.Most} {
		for _, s := range span.Path(x) {
			if !slices.Contains(all, s) {
				all = append(all, s)
			}
		}
	}
	meeting := 0
	for _, a := range all {
		for _, b := range all {
			aLo, aHi := span.Bounds(a)
			bLo, bHi := span.Bounds(b)
			meet := aLo <= bHi && bLo <= aHi
			inB, inA := bLo <= aLo && aHi <= bHi, aLo <= bLo && bHi <= aHi
			if meet != (inA || inB) || inB != up(a, b) || inA != up(b, a) {
				t.Fatalf("%v and %v: meet %t, within %t, %t, up %t, %t", a, b, meet, inB, inA, up(a, b), up(b, a))
			}
			if meet && a != b {
				meeting++
			}
		}
	}
	if meeting < 1000 {
		t.Errorf("only %d meet: too few to tell much", meeting)
	}
}

// Rule 5: what Cover and Path answer is new each time; what is handed to Common stays as it was, the room behind it too.
func TestMemory(t *testing.T) {
	apart := func(a, b []api.Span) bool {
		from, size := uintptr(unsafe.Pointer(unsafe.SliceData(a))), unsafe.Sizeof(api.Span{})
		other := uintptr(unsafe.Pointer(unsafe.SliceData(b)))
		return from+uintptr(cap(a))*size <= other || other+uintptr(cap(b))*size <= from
	}
	one, two, other := span.Path(7), span.Path(7), span.Path(8)
	if !apart(one, two) || !apart(one, other) || !apart(two, other) {
		t.Error("two paths share memory")
	}
	one[0], one[32] = api.Span{Level: 9}, api.Span{Level: 8}
	_ = append(one[:5], api.Span{Level: 7})
	if !slices.Equal(two, span.Path(7)) || two[0] != (api.Span{Index: 1<<31 + 7}) {
		t.Error("written into one path, seen in another")
	}
	first, second := span.Cover(1, 600), span.Cover(1, 600)
	if len(first) < 5 || !apart(first, second) {
		t.Error("two covers share memory")
	}
	first[0] = api.Span{Level: 9}
	first = append(first, api.Span{Level: 7})
	first[1] = api.Span{Level: 6}
	if !slices.Equal(second, span.Cover(1, 600)) || second[0] != (api.Span{Index: 1<<31 + 1}) {
		t.Error("written into one cover, seen in another")
	}
	xs := []int{9, -4, 7, 7, 3, 12}
	span.Common(xs[:4]...)
	span.Common(xs[:2]...)
	if !slices.Equal(xs, []int{9, -4, 7, 7, 3, 12}) {
		t.Errorf("changed: %v", xs)
	}
}
