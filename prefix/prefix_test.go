package prefix_test

import (
	"math/rand/v2"
	"runtime"
	"slices"
	"strconv"
	"strings"
	"testing"
	"unsafe"

	"trommel/api"
	"trommel/prefix"
)

var (
	longest = strings.Repeat("w", api.MaxWord)
	tooLong = longest + "w"
)

// texts are words of which some begin with others, bytes that are no letters, the longest words, and texts that are no words.
func texts() []string {
	return []string{
		"", "a", "ab", "abc", "abd", "abx", "ac", "b", "ba", "A", "aa", "\x00", "\x00\x00", "a\x00", "\x7f", "\x80", "\xff", "\xff\xff", "a\xff", "é", "\xc3", "\xa9", "a b", "\"", "\\", "日本", "日", "\xe6\x97",
		longest, longest[1:], longest[2:], "w", "ww", longest[1:] + "x", "x" + longest[1:], tooLong, longest + "x", longest + longest, "x" + longest, strings.Repeat("ab", 40),
	}
}

// pieces are all texts of a few bytes, up to a length.
func pieces(bytes string, most int) []string {
	all, last := []string{""}, []string{""}
	for range most {
		var next []string
		for _, w := range last {
			for i := range len(bytes) {
				next = append(next, w+bytes[i:i+1])
			}
		}
		all, last = append(all, next...), next
	}
	return all
}

// P11.1: the chapter's examples.
func TestExamples(t *testing.T) {
	x := prefix.New("ab", "a", "abc", "a")
	if x.Len() != 3 || x.Total() != 4 || x.Count("a") != 2 {
		t.Errorf("Len %d, Total %d, Count %d", x.Len(), x.Total(), x.Count("a"))
	}
	if got := x.Of("abx"); !slices.Equal(got, []string{"a", "ab"}) {
		t.Errorf("Of(abx) = %q", got)
	}
	if got := x.Of("b"); len(got) != 0 {
		t.Errorf("Of(b) = %q", got)
	}
	if got := x.Under("ab"); !slices.Equal(got, []string{"ab", "abc"}) {
		t.Errorf("Under(ab) = %q", got)
	}
	if got := x.Drop("a", "a", "a"); got != 2 {
		t.Errorf("Drop = %d", got)
	}
	if got := x.Of("abx"); !slices.Equal(got, []string{"ab"}) {
		t.Errorf("Of(abx) = %q", got)
	}
	if got := x.Add(""); got != 1 {
		t.Errorf("Add of the empty word = %d", got)
	}
	for _, text := range texts() {
		if got := x.Of(text); len(got) == 0 || got[0] != "" {
			t.Errorf("Of(%q) = %q", text, got)
		}
	}
	y := prefix.New()
	if got := y.Add(strings.Repeat("a", 65)); got != 0 || y.Len() != 0 || y.Total() != 0 || len(y.Under("")) != 0 {
		t.Errorf("Add of 65 bytes = %d, Len %d, Total %d", got, y.Len(), y.Total())
	}
}

// P11.1: a trie without words, made of none or emptied.
func TestNoWords(t *testing.T) {
	emptied := prefix.New(texts()...)
	emptied.Drop(texts()...)
	for _, x := range []*prefix.Trie{prefix.New(), prefix.New([]string{}...), prefix.New(tooLong), emptied} {
		for range 2 {
			if x.Add() != 0 || x.Drop() != 0 || x.Drop(texts()...) != 0 || x.Add(tooLong, longest+"x") != 0 {
				t.Error("none put in, none taken out")
			}
			hold(t, x, &bag{}, texts())
		}
	}
}

// P11.1: each call of a row is answered by what was told ahead of it.
func TestRow(t *testing.T) {
	x := prefix.New()
	for i, step := range []struct {
		drop  bool
		words []string
		want  int
		left  []string
	}{
		{false, []string{"a", "a"}, 1, []string{"a"}}, {false, []string{"a", "b", "", "b"}, 2, []string{"", "a", "b"}}, {true, []string{"a"}, 1, []string{"", "a", "b"}}, {true, []string{"a", "c", "a", "a"}, 2, []string{"", "b"}}, {true, []string{"a"}, 0, []string{"", "b"}},
		{true, []string{"", "", "b", "b", "b"}, 3, nil}, {false, []string{"abc", "a", "ab"}, 3, []string{"a", "ab", "abc"}}, {true, []string{"ab"}, 1, []string{"a", "abc"}}, {true, []string{"ab"}, 0, []string{"a", "abc"}}, {true, []string{"abcd", "", "b", "abd"}, 0, []string{"a", "abc"}},
		{true, []string{"abc"}, 1, []string{"a"}}, {false, []string{"abcd", "a"}, 1, []string{"a", "abcd"}}, {true, []string{"a", "a"}, 2, []string{"abcd"}}, {true, []string{"a", "ab", "abc"}, 0, []string{"abcd"}}, {false, []string{"ab", tooLong, "ab", tooLong}, 1, []string{"ab", "abcd"}},
		{true, []string{"abcd"}, 1, []string{"ab"}}, {false, []string{longest, longest, tooLong}, 1, []string{"ab", longest}}, {true, []string{tooLong, longest[1:], "ab", "ab"}, 2, []string{longest}}, {true, []string{longest}, 1, []string{longest}}, {true, []string{longest}, 1, nil},
		{false, []string{"\xff", "\x00", "\x80", "\x7f", "a"}, 5, []string{"\x00", "a", "\x7f", "\x80", "\xff"}}, {false, []string{"é", "\xc3", "z"}, 3, []string{"\x00", "a", "z", "\x7f", "\x80", "\xc3", "é", "\xff"}}, {true, []string{"\xc3", "\xa9", "\x00"}, 2, []string{"a", "z", "\x7f", "\x80", "é", "\xff"}},
	} {
		var got int
		if step.drop {
			got = x.Drop(step.words...)
		} else {
			got = x.Add(step.words...)
		}
		if left := x.Under(""); got != step.want || x.Len() != len(step.left) || !slices.Equal(left, step.left) {
			t.Errorf("step %d: %d, Len %d, %q", i, got, x.Len(), left)
		}
	}
}

// P11.1: words of which one begins with the other: whichever is taken out, the others stay.
func TestOneBeginsWithTheOther(t *testing.T) {
	row := []string{"", "a", "ab", "abc", "abcd", "abce"}
	for skip := range 1 << len(row) {
		b := &bag{all: slices.Clone(row)}
		x := prefix.New(row...)
		for i, w := range row {
			if skip>>i&1 == 1 {
				continue
			}
			if got := x.Drop(w); got != 1 {
				t.Fatalf("Drop(%q) = %d", w, got)
			}
			b.drop(w)
			hold(t, x, b, pieces("abc", 3))
		}
		hold(t, x, b, append(texts(), row...))
	}
}

// P11.1: a word of MaxWord bytes and one of a byte more, to all calls.
func TestLongWords(t *testing.T) {
	x := prefix.New(tooLong)
	if x.Len() != 0 || x.Total() != 0 {
		t.Error("New takes a word of a byte more")
	}
	if got := x.Add(longest, tooLong, longest[1:]); got != 2 {
		t.Errorf("Add = %d", got)
	}
	if x.Len() != 2 || x.Total() != 2 || x.Count(longest) != 1 || x.Count(tooLong) != 0 || x.Count(longest[2:]) != 0 {
		t.Error("what is in")
	}
	for _, text := range []string{longest, tooLong, longest + "x", longest + longest} {
		if got := x.Of(text); !slices.Equal(got, []string{longest[1:], longest}) {
			t.Errorf("Of(%q) = %q", text, got)
		}
	}
	if got := x.Under(longest); !slices.Equal(got, []string{longest}) {
		t.Errorf("Under of the longest = %q", got)
	}
	if got := x.Under(tooLong); len(got) != 0 {
		t.Errorf("Under of a longer one = %q", got)
	}
	if x.Drop(tooLong) != 0 || x.Drop(longest+"x") != 0 || x.Count(longest) != 1 {
		t.Error("a word of a byte more is taken out")
	}
	if x.Drop(longest, longest) != 1 || x.Len() != 1 || !slices.Equal(x.Of(tooLong), []string{longest[1:]}) {
		t.Error("the longest is taken out")
	}
}

// P11.1: every row of five calls with one word each.
func TestAllRowsOfFive(t *testing.T) {
	words := []string{"", "a", "ab", "b"}
	var row func(done []int)
	row = func(done []int) {
		x, b := prefix.New(), &bag{}
		for _, c := range done {
			w := words[c/2]
			if c%2 == 0 {
				if got, want := x.Add(w), b.add(w); got != want {
					t.Fatalf("%v: Add(%q) = %d", done, w, got)
				}
			} else if got, want := x.Drop(w), b.drop(w); got != want {
				t.Fatalf("%v: Drop(%q) = %d", done, w, got)
			}
		}
		hold(t, x, b, []string{"", "a", "ab", "b", "ac", "abc"})
		if len(done) < 5 {
			for c := range 2 * len(words) {
				row(append(slices.Clone(done), c))
			}
		}
	}
	row(nil)
}

// P11.1: long rows of calls with many words, at three tries side by side, each with words of its own and of the others.
func TestRowsSideBySide(t *testing.T) {
	chance := rand.New(rand.NewPCG(11, 1))
	pool := append(pieces("ab\xff", 3), texts()...)
	some := func() []string {
		var out []string
		for range chance.IntN(7) {
			out = append(out, pool[chance.IntN(len(pool))])
		}
		return out
	}
	for range 6 {
		var tries []*prefix.Trie
		var bags []*bag
		for range 3 {
			words := some()
			b := &bag{}
			b.add(words...)
			tries, bags = append(tries, prefix.New(words...)), append(bags, b)
		}
		for range 60 {
			i, words := chance.IntN(3), some()
			switch chance.IntN(5) {
			case 0, 1, 2:
				if got, want := tries[i].Add(words...), bags[i].add(words...); got != want {
					t.Fatalf("Add(%q) = %d, not %d", words, got, want)
				}
			case 3:
				words = append(words, bags[i].all[:len(bags[i].all)/2]...)
				if got, want := tries[i].Drop(words...), bags[i].drop(words...); got != want {
					t.Fatalf("Drop(%q) = %d, not %d", words, got, want)
				}
			case 4:
				if got, want := tries[i].Drop(words...), bags[i].drop(words...); got != want {
					t.Fatalf("Drop(%q) = %d, not %d", words, got, want)
				}
			}
			for j := range tries {
				hold(t, tries[j], bags[j], pool)
			}
		}
	}
}

// P11.1: Len and Total are asked of the Sizes that a trie embeds, at once or later.
func TestSizes(t *testing.T) {
	x := prefix.New("a", "b", "a")
	s := &x.Sizes
	x.Add("c", "a")
	x.Drop("b")
	if s.Len() != 2 || s.Total() != 4 || x.Len() != 2 || x.Total() != 4 {
		t.Errorf("Len %d %d, Total %d %d", s.Len(), x.Len(), s.Total(), x.Total())
	}
}

// P11.1: a trie asked hasn't changed.
func TestAskingChangesNothing(t *testing.T) {
	x, b := prefix.New(texts()...), &bag{}
	b.add(texts()...)
	for range 3 {
		hold(t, x, b, append(pieces("aw\xff", 3), texts()...))
	}
}

// P11.2: a word is in Of(w) just if it is in the trie and w is under it; Under("") has all.
func TestOfAndUnder(t *testing.T) {
	chance := rand.New(rand.NewPCG(11, 2))
	pool := append(pieces("ab\x80", 3), texts()...)
	for range 40 {
		x := prefix.New()
		for range chance.IntN(60) {
			x.Add(pool[chance.IntN(len(pool))])
		}
		for range chance.IntN(20) {
			x.Drop(pool[chance.IntN(len(pool))])
		}
		all := x.Under("")
		if len(all) != x.Len() || !slices.IsSorted(all) {
			t.Fatalf("Under of the empty word = %q, Len %d", all, x.Len())
		}
		for _, w := range pool {
			if slices.Contains(all, w) != (x.Count(w) > 0) {
				t.Fatalf("Count(%q) = %d, and all are %q", w, x.Count(w), all)
			}
		}
		for _, w := range all {
			of := x.Of(w)
			for _, v := range pool {
				if slices.Contains(of, v) != (x.Count(v) > 0 && slices.Contains(x.Under(v), w)) {
					t.Fatalf("Of(%q) = %q, Under(%q) = %q", w, of, v, x.Under(v))
				}
			}
		}
	}
}

// told is all that a trie tells of some texts.
type told struct {
	length, total int
	counts        []int
	lists         [][]string
}

func tell(x *prefix.Trie, texts []string) told {
	all := told{length: x.Len(), total: x.Total()}
	for _, text := range texts {
		all.counts = append(all.counts, x.Count(text))
		all.lists = append(all.lists, x.Of(text), x.Under(text))
	}
	return all
}

func (a told) same(b told) bool {
	return a.length == b.length && a.total == b.total && slices.Equal(a.counts, b.counts) && slices.EqualFunc(a.lists, b.lists, slices.Equal[[]string])
}

// P11.3: adding and then dropping the same words, in this order or another, leaves the trie as it was.
func TestAddThenDrop(t *testing.T) {
	chance := rand.New(rand.NewPCG(11, 3))
	pool := append(pieces("ab", 4), texts()...)
	for round := range 60 {
		x := prefix.New()
		for range chance.IntN(40) {
			x.Add(pool[chance.IntN(len(pool))])
		}
		before := tell(x, pool)
		var words []string
		for range round {
			words = append(words, pool[chance.IntN(len(pool))])
		}
		short := 0
		for _, w := range words {
			if len(w) <= api.MaxWord {
				short++
			}
		}
		x.Add(words...)
		if round%2 == 1 {
			chance.Shuffle(len(words), func(i, j int) { words[i], words[j] = words[j], words[i] })
		}
		// A word that is too long isn't in: it is neither put in nor taken out.
		if got := x.Drop(words...); got != short {
			t.Fatalf("Drop(%q) = %d, not %d", words, got, short)
		}
		if !before.same(tell(x, pool)) {
			t.Fatalf("the trie isn't as it was behind %q", words)
		}
	}
}

func heap() uint64 {
	var m runtime.MemStats
	runtime.GC()
	runtime.GC()
	runtime.ReadMemStats(&m)
	return m.HeapAlloc
}

// P11.3: of words taken out nothing is kept.
func TestNothingIsKept(t *testing.T) {
	x := prefix.New("a", "b")
	before := heap()
	for round := range 3 {
		var words []string
		for i := range 2000 {
			text := strconv.Itoa(i*7919) + "."
			words = append(words, strings.Repeat(text, 64/len(text)))
		}
		x.Add(words...)
		if held := heap(); held < before+8<<20 {
			t.Fatalf("%d bytes are too few to be told apart", held-before)
		}
		if round%2 == 1 {
			slices.Reverse(words)
		}
		if got := x.Drop(words...); got != 2000 {
			t.Errorf("Drop = %d", got)
		}
		words = nil
	}
	if after := heap(); after > before+2<<20 {
		t.Errorf("%d bytes are kept", after-before)
	}
	if x.Len() != 2 || x.Total() != 2 || !slices.Equal(x.Under(""), []string{"a", "b"}) {
		t.Error("what was there isn't")
	}
}

// P11.1: many words, one of them very often, and texts far longer than a word.
func TestGreat(t *testing.T) {
	var words []string
	for i := range 100000 {
		words = append(words, strconv.Itoa(i))
	}
	x := prefix.New(words...)
	if x.Len() != 100000 || x.Total() != 100000 || x.Count("77777") != 1 || len(x.Under("9")) != 11111 {
		t.Errorf("Len %d, Total %d, Count %d", x.Len(), x.Total(), x.Count("77777"))
	}
	slices.Sort(words)
	if !slices.Equal(x.Under(""), words) || !slices.Equal(x.Of("123456"), []string{"1", "12", "123", "1234", "12345"}) {
		t.Error("what is in")
	}
	if got := x.Drop(words...); got != 100000 || x.Len() != 0 || len(x.Under("")) != 0 {
		t.Errorf("Drop = %d, Len %d", got, x.Len())
	}
	often := slices.Repeat([]string{"w"}, 100000)
	if x.Add(often...) != 1 || x.Count("w") != 100000 || x.Len() != 1 || x.Total() != 100000 || x.Drop(often[1:]...) != 99999 || x.Count("w") != 1 {
		t.Errorf("Count %d, Len %d, Total %d", x.Count("w"), x.Len(), x.Total())
	}
	long := strings.Repeat("w", 1<<24)
	if x.Add(long, longest) != 1 || x.Drop(long) != 0 || x.Count(long) != 0 || len(x.Under(long)) != 0 || !slices.Equal(x.Of(long), []string{"w", longest}) {
		t.Error("a long text")
	}
}

// Rule 5: the lists that are handed in stay as they were, the spare room too, and the trie doesn't see what becomes of them.
func TestHandedInIsLeft(t *testing.T) {
	given := []string{"ab", "a", tooLong, "", "ab", "spare", "room"}
	room := slices.Clone(given)
	list := room[:5]
	x := prefix.New(list...)
	x.Add(list...)
	x.Drop(list[:2]...)
	x.Drop("never", "there")
	if !slices.Equal(room, given) {
		t.Errorf("the list is now %q", room)
	}
	b := &bag{}
	b.add(given[:5]...)
	b.add(given[:5]...)
	b.drop("ab", "a")
	for i := range room {
		room[i] = "z" + strconv.Itoa(i)
	}
	hold(t, x, b, append(texts(), "z0", "z1", "spare"))
}

// Rule 5: a word's bytes aren't kept, and not answered either.
func TestWordsAreNotKept(t *testing.T) {
	buffer := []byte("abcdef")
	w := unsafe.String(&buffer[0], len(buffer))
	x := prefix.New(w, w[:2])
	x.Add(w[:4])
	of, under := x.Of(w), x.Under(w[:3])
	copy(buffer, "zzzzzz")
	if want := []string{"ab", "abcd", "abcdef"}; !slices.Equal(x.Under(""), want) || !slices.Equal(of, want) || !slices.Equal(under, want[1:]) {
		t.Errorf("in are %q, answered were %q, %q", x.Under(""), of, under)
	}
}

// apart tells whether lists, their spare rooms too, share no memory.
func apart(lists ...[]string) bool {
	size := unsafe.Sizeof("")
	for i, a := range lists {
		for _, b := range lists[:i] {
			if cap(a) == 0 || cap(b) == 0 {
				continue
			}
			fromA, fromB := uintptr(unsafe.Pointer(unsafe.SliceData(a))), uintptr(unsafe.Pointer(unsafe.SliceData(b)))
			if fromA < fromB+uintptr(cap(b))*size && fromB < fromA+uintptr(cap(a))*size {
				return false
			}
		}
	}
	return true
}

// Rule 5: what Of and Under answer is new memory, whatever was answered ahead of it.
func TestAnswersAreNew(t *testing.T) {
	given := []string{"", "a", "ab", "abc", "b"}
	x := prefix.New(given...)
	lists := [][]string{given, x.Of("abc"), x.Of("abc"), x.Of("ab"), x.Under(""), x.Under(""), x.Under("a"), x.Under("abc")}
	if !apart(lists...) {
		t.Error("two lists share memory")
	}
	for _, list := range lists[1:] {
		for i := range list {
			list[i] = "written"
		}
		list = append(list, "appended")
		list = list[:cap(list)]
		for i := range list {
			list[i] = "written"
		}
	}
	b := &bag{}
	b.add("", "a", "ab", "abc", "b")
	hold(t, x, b, append(texts(), "written", "appended"))
}

// P11.1, rule 5: tries made of one list have nothing to do with one another.
func TestTriesAreApart(t *testing.T) {
	list := []string{"a", "ab", "b"}
	x, y := prefix.New(list...), prefix.New(list...)
	if x == y || prefix.New() == prefix.New() {
		t.Error("two tries are one")
	}
	x.Add("a", "c", "abc")
	y.Drop("ab", "b")
	bx, by := &bag{}, &bag{}
	bx.add("a", "ab", "b", "a", "c", "abc")
	by.add("a")
	hold(t, x, bx, texts())
	hold(t, y, by, texts())
	x.Drop("a", "a", "ab", "abc", "b", "c")
	hold(t, x, &bag{}, texts())
	hold(t, y, by, texts())
}
